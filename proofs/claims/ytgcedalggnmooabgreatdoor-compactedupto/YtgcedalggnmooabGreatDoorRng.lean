import Derived.Test.YtgcedalggnmooabGreatDoorRefAX
set_option linter.unusedSimpArgs false
set_option linter.unusedVariables false
set_option maxRecDepth 100000
namespace Go.Proofs.YtgcedalggnmooabGreatDoor
open Go.RowKit
def idB (n:Nat):Bool:=decide (1≤n) && decide (n≤2147483647)
theorem mayI (n:Nat):Pl.mayB 105 n=idB n:=by simp [Pl.mayB,idB]
theorem mayC (n:Nat):Pl.mayB 99 n=idB n:=by simp [Pl.mayB,idB]
theorem mayD (n:Nat):Pl.mayB 100 n=decide (n≤2147483647):=by simp [Pl.mayB]
theorem mayW (n:Nat):Pl.mayB 119 n=decide (n≤3):=by simp [Pl.mayB]
set_option maxHeartbeats 800000 in
theorem isId_any (b cap:Nat) (ns:List Nat) (hl:ns.length≤3) (hn:∀ n ∈ ns,n<9223372036854775808) (w:World)
  (hc:∀ j,j<ns.length→w.cell? ⟨b,j,none⟩=some (.int .i64 (ns.getD j 0:Nat))) :
  Calls Tryz.prog 208 #[.slice (some ⟨b,0,none⟩) ns.length cap] w fun e w'=>e=.returned (.bool (ns.all idB))∧w'=w:=by
 go_enter Tryz.func208,Tryz.ntmps208
 go_wp2_with fail
 go_loop [4,7] (fun _ i=>∃ k:Nat,k≤ns.length∧i=.int .i64 k∧(∀ j,j<k→idB (ns.getD j 0)=true)) (fun _ i=>ns.length - (intOf i).toNat)
 case atStart=>exact ⟨0,by omega,rfl,fun j h=>absurd h (by omega)⟩
 case round =>
  obtain ⟨k,hk,rfl,hall⟩:=hrel
  by_cases hlt:k<ns.length
  ·obtain ⟨n,hn0⟩:∃ n,n=ns.getD k 0:=⟨_,rfl⟩
   have hcx:w.cell? ⟨b,k,none⟩=some (.int .i64 (n:Int)):=by rw [hn0];exact hc k hlt
   have hnl:n<9223372036854775808:=by rw [hn0];exact hn _ (by simp [List.getD_eq_getElem?_getD,hlt])
   have hmem:n ∈ ns:=by rw [hn0];simp [List.getD_eq_getElem?_getD,hlt]
   have HM:=hide hmem
   have HN:=hide hn0
   clear hc hn0 hn hmem
   by_cases hid:1≤n∧n≤2147483647
   ·obtain ⟨h1,h2⟩:=hid
    go_wp2_with fail
    go_round
    case rel =>
     refine ⟨k+1,by omega,by go_num,?_⟩
     intro j hj
     by_cases hjk:j=k
     ·subst hjk;rw [← HN.out];simp [idB,h1,h2]
     ·exact hall j (by omega)
    case measure=>simp [intOf];omega
   ·have HA:Hid (ns.all idB=false):=by
     cases hq:ns.all idB
     ·rfl
     ·have:=List.all_eq_true.1 hq n HM.out
      simp only [idB,Bool.and_eq_true,decide_eq_true_eq] at this
      exact absurd this hid
    rcases (show n<1∨2147483647<n from by omega) with h | h
    all_goals
     clear hid
     go_wp2_with fail
     go_ret
     exact ⟨by rw [HA.out];rfl,rfl⟩
  ·have HA:Hid (ns.all idB=true):=by
    apply List.all_eq_true.2
    intro x hx
    obtain ⟨j,hj,rfl⟩:=List.getElem_of_mem hx
    have:=hall j (by omega)
    simpa [List.getD_eq_getElem?_getD,hj] using this
   clear hc hn
   go_wp2_with fail
   go_ret
   exact ⟨by rw [HA.out];rfl,rfl⟩
theorem cells_I (w1:World) (cs:List Nat) (t:TypeId) (b:Nat) (hb:b=w1.heap.size):∀ j,j<cs.length→(w1.alloc (.cells (I cs).toArray t)).cell? ⟨b,j,none⟩=some (.int .i64 (cs.getD j 0:Nat)):=by
 intro j hj
 subst hb
 rw [World.cell?_alloc_mark]
 simp [I,List.getD_eq_getElem?_getD,hj]
set_option maxHeartbeats 800000 in
theorem inRange_Day (a:Nat) (ha:a<9223372036854775808) (w:World) :
  Calls Tryz.prog 205 #[.agg #[.int .i64 (a:Int)]] w fun e w'=>e=.returned (.bool (Pl.mays (Pl.kindsL 1) [a]))∧Below w.heap.size w w':=by
 have HM:Hid (Pl.mays (Pl.kindsL 1) [a]=(true && decide (a≤2147483647))):=by
  show Pl.mays [100] [a]=_
  simp [Pl.mays,mayI,mayC,mayD,mayW,Bool.and_assoc]
 rcases (show a≤2147483647∨2147483647<a from by omega) with qa | qa
 ·go_enter Tryz.func205,Tryz.ntmps205
  go_wp2_with (first | (go_at_call 209;go_in) | (go_at_call 206;go_in) | fail)
  go_ret
  refine ⟨ret_bool (by simp only [HM.out];try (rw [Bool.eq_iff_iff];simp [idB];try omega)),?_⟩
  ·exact (Below.refl _ _).alloc (Nat.le_refl _) _
 ·go_enter Tryz.func205,Tryz.ntmps205
  go_wp2_with (first | (go_at_call 209;go_in) | (go_at_call 206;go_in) | fail)
  go_ret
  refine ⟨ret_bool (by simp only [HM.out];try (rw [Bool.eq_iff_iff];simp [idB];try omega)),?_⟩
  ·exact (Below.refl _ _).alloc (Nat.le_refl _) _
set_option maxHeartbeats 800000 in
theorem inRange_Receive (a b c d:Nat) (ha:a<9223372036854775808) (hb:b<9223372036854775808) (hc:c<9223372036854775808) (hd:d<9223372036854775808) (w:World) :
  Calls Tryz.prog 207 #[.agg #[.int .i64 (a:Int),.int .i64 (b:Int),.int .i64 (c:Int),.int .i64 (d:Int)]] w fun e w'=>e=.returned (.bool (Pl.mays (Pl.kindsL 2) [a,b,c,d]))∧Below w.heap.size w w':=by
 have H1:Hid (Calls Tryz.prog 208 #[.slice (some ⟨w.heap.size+1,0,none⟩) 2 2] ((w.alloc (.cells #[.int .i64 (a:Int),.int .i64 (b:Int),.int .i64 (c:Int),.int .i64 (d:Int)] 89)).alloc (.cells #[.int .i64 (a:Int),.int .i64 (b:Int)] 2)) fun e w'=>e=.returned (.bool ([a,b].all idB))∧w'=((w.alloc (.cells #[.int .i64 (a:Int),.int .i64 (b:Int),.int .i64 (c:Int),.int .i64 (d:Int)] 89)).alloc (.cells #[.int .i64 (a:Int),.int .i64 (b:Int)] 2))):=by
  have:=isId_any (w.heap.size+1) 2 [a,b] (by simp) (by simp;omega) ((w.alloc (.cells #[.int .i64 (a:Int),.int .i64 (b:Int),.int .i64 (c:Int),.int .i64 (d:Int)] 89)).alloc (.cells #[.int .i64 (a:Int),.int .i64 (b:Int)] 2)) (by
   have h:=cells_I (w.alloc (.cells #[.int .i64 (a:Int),.int .i64 (b:Int),.int .i64 (c:Int),.int .i64 (d:Int)] 89)) [a,b] 2 (w.heap.size+1) (by simp)
   exact h)
  exact this
 have HM:Hid (Pl.mays (Pl.kindsL 2) [a,b,c,d]=(([a,b].all idB) && idB c && decide (d≤2147483647))):=by
  show Pl.mays [105,105,99,100] [a,b,c,d]=_
  simp [Pl.mays,mayI,mayC,mayD,mayW,Bool.and_assoc]
 generalize hq:[a,b].all idB=q at H1
 have HQ:=hide hq
 clear hq
 cases q
 ·go_enter Tryz.func207,Tryz.ntmps207
  go_wp2_with (first | (go_at_call 208;refine (H1.out).mono ?_;rintro e w1 ⟨rfl,rfl⟩) | (go_at_call 209;go_in) | (go_at_call 206;go_in) | fail)
  go_ret
  refine ⟨ret_bool (by simp only [HM.out,HQ.out];try (rw [Bool.eq_iff_iff];simp [idB];try omega)),?_⟩
  ·exact ((Below.refl _ _).alloc (Nat.le_refl _) _).alloc (by simp) _
 ·rcases (show c<1∨(1≤c∧c≤2147483647)∨2147483647<c from by omega) with qc | qc | qc
  ·go_enter Tryz.func207,Tryz.ntmps207
   go_wp2_with (first | (go_at_call 208;refine (H1.out).mono ?_;rintro e w1 ⟨rfl,rfl⟩) | (go_at_call 209;go_in) | (go_at_call 206;go_in) | fail)
   go_ret
   refine ⟨ret_bool (by simp only [HM.out,HQ.out];try (rw [Bool.eq_iff_iff];simp [idB];try omega)),?_⟩
   ·exact ((Below.refl _ _).alloc (Nat.le_refl _) _).alloc (by simp) _
  ·obtain ⟨qc1,qc2⟩:=qc
   rcases (show d≤2147483647∨2147483647<d from by omega) with qd | qd
   ·go_enter Tryz.func207,Tryz.ntmps207
    go_wp2_with (first | (go_at_call 208;refine (H1.out).mono ?_;rintro e w1 ⟨rfl,rfl⟩) | (go_at_call 209;go_in) | (go_at_call 206;go_in) | fail)
    go_ret
    refine ⟨ret_bool (by simp only [HM.out,HQ.out];try (rw [Bool.eq_iff_iff];simp [idB];try omega)),?_⟩
    ·exact ((Below.refl _ _).alloc (Nat.le_refl _) _).alloc (by simp) _
   ·go_enter Tryz.func207,Tryz.ntmps207
    go_wp2_with (first | (go_at_call 208;refine (H1.out).mono ?_;rintro e w1 ⟨rfl,rfl⟩) | (go_at_call 209;go_in) | (go_at_call 206;go_in) | fail)
    go_ret
    refine ⟨ret_bool (by simp only [HM.out,HQ.out];try (rw [Bool.eq_iff_iff];simp [idB];try omega)),?_⟩
    ·exact ((Below.refl _ _).alloc (Nat.le_refl _) _).alloc (by simp) _
  ·go_enter Tryz.func207,Tryz.ntmps207
   go_wp2_with (first | (go_at_call 208;refine (H1.out).mono ?_;rintro e w1 ⟨rfl,rfl⟩) | (go_at_call 209;go_in) | (go_at_call 206;go_in) | fail)
   go_ret
   refine ⟨ret_bool (by simp only [HM.out,HQ.out];try (rw [Bool.eq_iff_iff];simp [idB];try omega)),?_⟩
   ·exact ((Below.refl _ _).alloc (Nat.le_refl _) _).alloc (by simp) _
set_option maxHeartbeats 800000 in
theorem inRange_Split (a b c:Nat) (ha:a<9223372036854775808) (hb:b<9223372036854775808) (hc:c<9223372036854775808) (w:World) :
  Calls Tryz.prog 210 #[.agg #[.int .i64 (a:Int),.int .i64 (b:Int),.int .i64 (c:Int)]] w fun e w'=>e=.returned (.bool (Pl.mays (Pl.kindsL 3) [a,b,c]))∧Below w.heap.size w w':=by
 have H1:Hid (Calls Tryz.prog 208 #[.slice (some ⟨w.heap.size+1,0,none⟩) 2 2] ((w.alloc (.cells #[.int .i64 (a:Int),.int .i64 (b:Int),.int .i64 (c:Int)] 92)).alloc (.cells #[.int .i64 (a:Int),.int .i64 (b:Int)] 2)) fun e w'=>e=.returned (.bool ([a,b].all idB))∧w'=((w.alloc (.cells #[.int .i64 (a:Int),.int .i64 (b:Int),.int .i64 (c:Int)] 92)).alloc (.cells #[.int .i64 (a:Int),.int .i64 (b:Int)] 2))):=by
  have:=isId_any (w.heap.size+1) 2 [a,b] (by simp) (by simp;omega) ((w.alloc (.cells #[.int .i64 (a:Int),.int .i64 (b:Int),.int .i64 (c:Int)] 92)).alloc (.cells #[.int .i64 (a:Int),.int .i64 (b:Int)] 2)) (by
   have h:=cells_I (w.alloc (.cells #[.int .i64 (a:Int),.int .i64 (b:Int),.int .i64 (c:Int)] 92)) [a,b] 2 (w.heap.size+1) (by simp)
   exact h)
  exact this
 have HM:Hid (Pl.mays (Pl.kindsL 3) [a,b,c]=(([a,b].all idB) && idB c)):=by
  show Pl.mays [105,105,99] [a,b,c]=_
  simp [Pl.mays,mayI,mayC,mayD,mayW,Bool.and_assoc]
 generalize hq:[a,b].all idB=q at H1
 have HQ:=hide hq
 clear hq
 cases q
 ·go_enter Tryz.func210,Tryz.ntmps210
  go_wp2_with (first | (go_at_call 208;refine (H1.out).mono ?_;rintro e w1 ⟨rfl,rfl⟩) | (go_at_call 209;go_in) | (go_at_call 206;go_in) | fail)
  go_ret
  refine ⟨ret_bool (by simp only [HM.out,HQ.out];try (rw [Bool.eq_iff_iff];simp [idB];try omega)),?_⟩
  ·exact ((Below.refl _ _).alloc (Nat.le_refl _) _).alloc (by simp) _
 ·rcases (show c<1∨(1≤c∧c≤2147483647)∨2147483647<c from by omega) with qc | qc | qc
  ·go_enter Tryz.func210,Tryz.ntmps210
   go_wp2_with (first | (go_at_call 208;refine (H1.out).mono ?_;rintro e w1 ⟨rfl,rfl⟩) | (go_at_call 209;go_in) | (go_at_call 206;go_in) | fail)
   go_ret
   refine ⟨ret_bool (by simp only [HM.out,HQ.out];try (rw [Bool.eq_iff_iff];simp [idB];try omega)),?_⟩
   ·exact ((Below.refl _ _).alloc (Nat.le_refl _) _).alloc (by simp) _
  ·obtain ⟨qc1,qc2⟩:=qc
   go_enter Tryz.func210,Tryz.ntmps210
   go_wp2_with (first | (go_at_call 208;refine (H1.out).mono ?_;rintro e w1 ⟨rfl,rfl⟩) | (go_at_call 209;go_in) | (go_at_call 206;go_in) | fail)
   go_ret
   refine ⟨ret_bool (by simp only [HM.out,HQ.out];try (rw [Bool.eq_iff_iff];simp [idB];try omega)),?_⟩
   ·exact ((Below.refl _ _).alloc (Nat.le_refl _) _).alloc (by simp) _
  ·go_enter Tryz.func210,Tryz.ntmps210
   go_wp2_with (first | (go_at_call 208;refine (H1.out).mono ?_;rintro e w1 ⟨rfl,rfl⟩) | (go_at_call 209;go_in) | (go_at_call 206;go_in) | fail)
   go_ret
   refine ⟨ret_bool (by simp only [HM.out,HQ.out];try (rw [Bool.eq_iff_iff];simp [idB];try omega)),?_⟩
   ·exact ((Below.refl _ _).alloc (Nat.le_refl _) _).alloc (by simp) _
set_option maxHeartbeats 800000 in
theorem inRange_Merge (a b c:Nat) (ha:a<9223372036854775808) (hb:b<9223372036854775808) (hc:c<9223372036854775808) (w:World) :
  Calls Tryz.prog 211 #[.agg #[.int .i64 (a:Int),.int .i64 (b:Int),.int .i64 (c:Int)]] w fun e w'=>e=.returned (.bool (Pl.mays (Pl.kindsL 4) [a,b,c]))∧Below w.heap.size w w':=by
 have H1:Hid (Calls Tryz.prog 208 #[.slice (some ⟨w.heap.size+1,0,none⟩) 3 3] ((w.alloc (.cells #[.int .i64 (a:Int),.int .i64 (b:Int),.int .i64 (c:Int)] 95)).alloc (.cells #[.int .i64 (a:Int),.int .i64 (b:Int),.int .i64 (c:Int)] 2)) fun e w'=>e=.returned (.bool ([a,b,c].all idB))∧w'=((w.alloc (.cells #[.int .i64 (a:Int),.int .i64 (b:Int),.int .i64 (c:Int)] 95)).alloc (.cells #[.int .i64 (a:Int),.int .i64 (b:Int),.int .i64 (c:Int)] 2))):=by
  have:=isId_any (w.heap.size+1) 3 [a,b,c] (by simp) (by simp;omega) ((w.alloc (.cells #[.int .i64 (a:Int),.int .i64 (b:Int),.int .i64 (c:Int)] 95)).alloc (.cells #[.int .i64 (a:Int),.int .i64 (b:Int),.int .i64 (c:Int)] 2)) (by
   have h:=cells_I (w.alloc (.cells #[.int .i64 (a:Int),.int .i64 (b:Int),.int .i64 (c:Int)] 95)) [a,b,c] 2 (w.heap.size+1) (by simp)
   exact h)
  exact this
 have HM:Hid (Pl.mays (Pl.kindsL 4) [a,b,c]=(([a,b,c].all idB))):=by
  show Pl.mays [105,105,105] [a,b,c]=_
  simp [Pl.mays,mayI,mayC,mayD,mayW,Bool.and_assoc]
 generalize hq:[a,b,c].all idB=q at H1
 have HQ:=hide hq
 clear hq
 cases q
 ·go_enter Tryz.func211,Tryz.ntmps211
  go_wp2_with (first | (go_at_call 208;refine (H1.out).mono ?_;rintro e w1 ⟨rfl,rfl⟩) | (go_at_call 209;go_in) | (go_at_call 206;go_in) | fail)
  go_ret
  refine ⟨ret_bool (by simp only [HM.out,HQ.out];try (rw [Bool.eq_iff_iff];simp [idB];try omega)),?_⟩
  ·exact ((Below.refl _ _).alloc (Nat.le_refl _) _).alloc (by simp) _
 ·go_enter Tryz.func211,Tryz.ntmps211
  go_wp2_with (first | (go_at_call 208;refine (H1.out).mono ?_;rintro e w1 ⟨rfl,rfl⟩) | (go_at_call 209;go_in) | (go_at_call 206;go_in) | fail)
  go_ret
  refine ⟨ret_bool (by simp only [HM.out,HQ.out];try (rw [Bool.eq_iff_iff];simp [idB];try omega)),?_⟩
  ·exact ((Below.refl _ _).alloc (Nat.le_refl _) _).alloc (by simp) _
set_option maxHeartbeats 800000 in
theorem inRange_Order (a b c d f:Nat) (ha:a<9223372036854775808) (hb:b<9223372036854775808) (hc:c<9223372036854775808) (hd:d<9223372036854775808) (hf:f<9223372036854775808) (w:World) :
  Calls Tryz.prog 212 #[.agg #[.int .i64 (a:Int),.int .i64 (b:Int),.int .i64 (c:Int),.int .i64 (d:Int),.int .i64 (f:Int)]] w fun e w'=>e=.returned (.bool (Pl.mays (Pl.kindsL 5) [a,b,c,d,f]))∧Below w.heap.size w w':=by
 have H1:Hid (Calls Tryz.prog 208 #[.slice (some ⟨w.heap.size+1,0,none⟩) 2 2] ((w.alloc (.cells #[.int .i64 (a:Int),.int .i64 (b:Int),.int .i64 (c:Int),.int .i64 (d:Int),.int .i64 (f:Int)] 98)).alloc (.cells #[.int .i64 (a:Int),.int .i64 (b:Int)] 2)) fun e w'=>e=.returned (.bool ([a,b].all idB))∧w'=((w.alloc (.cells #[.int .i64 (a:Int),.int .i64 (b:Int),.int .i64 (c:Int),.int .i64 (d:Int),.int .i64 (f:Int)] 98)).alloc (.cells #[.int .i64 (a:Int),.int .i64 (b:Int)] 2))):=by
  have:=isId_any (w.heap.size+1) 2 [a,b] (by simp) (by simp;omega) ((w.alloc (.cells #[.int .i64 (a:Int),.int .i64 (b:Int),.int .i64 (c:Int),.int .i64 (d:Int),.int .i64 (f:Int)] 98)).alloc (.cells #[.int .i64 (a:Int),.int .i64 (b:Int)] 2)) (by
   have h:=cells_I (w.alloc (.cells #[.int .i64 (a:Int),.int .i64 (b:Int),.int .i64 (c:Int),.int .i64 (d:Int),.int .i64 (f:Int)] 98)) [a,b] 2 (w.heap.size+1) (by simp)
   exact h)
  exact this
 have HM:Hid (Pl.mays (Pl.kindsL 5) [a,b,c,d,f]=(([a,b].all idB) && idB c && decide (d≤2147483647) && decide (f≤3))):=by
  show Pl.mays [105,105,99,100,119] [a,b,c,d,f]=_
  simp [Pl.mays,mayI,mayC,mayD,mayW,Bool.and_assoc]
 generalize hq:[a,b].all idB=q at H1
 have HQ:=hide hq
 clear hq
 cases q
 ·go_enter Tryz.func212,Tryz.ntmps212
  go_wp2_with (first | (go_at_call 208;refine (H1.out).mono ?_;rintro e w1 ⟨rfl,rfl⟩) | (go_at_call 209;go_in) | (go_at_call 206;go_in) | fail)
  go_ret
  refine ⟨ret_bool (by simp only [HM.out,HQ.out];try (rw [Bool.eq_iff_iff];simp [idB];try omega)),?_⟩
  ·exact ((Below.refl _ _).alloc (Nat.le_refl _) _).alloc (by simp) _
 ·rcases (show c<1∨(1≤c∧c≤2147483647)∨2147483647<c from by omega) with qc | qc | qc
  ·go_enter Tryz.func212,Tryz.ntmps212
   go_wp2_with (first | (go_at_call 208;refine (H1.out).mono ?_;rintro e w1 ⟨rfl,rfl⟩) | (go_at_call 209;go_in) | (go_at_call 206;go_in) | fail)
   go_ret
   refine ⟨ret_bool (by simp only [HM.out,HQ.out];try (rw [Bool.eq_iff_iff];simp [idB];try omega)),?_⟩
   ·exact ((Below.refl _ _).alloc (Nat.le_refl _) _).alloc (by simp) _
  ·obtain ⟨qc1,qc2⟩:=qc
   rcases (show d≤2147483647∨2147483647<d from by omega) with qd | qd
   ·rcases (show f≤3∨3<f from by omega) with qf | qf
    ·go_enter Tryz.func212,Tryz.ntmps212
     go_wp2_with (first | (go_at_call 208;refine (H1.out).mono ?_;rintro e w1 ⟨rfl,rfl⟩) | (go_at_call 209;go_in) | (go_at_call 206;go_in) | fail)
     go_ret
     refine ⟨ret_bool (by simp only [HM.out,HQ.out];try (rw [Bool.eq_iff_iff];simp [idB];try omega)),?_⟩
     ·exact ((Below.refl _ _).alloc (Nat.le_refl _) _).alloc (by simp) _
    ·go_enter Tryz.func212,Tryz.ntmps212
     go_wp2_with (first | (go_at_call 208;refine (H1.out).mono ?_;rintro e w1 ⟨rfl,rfl⟩) | (go_at_call 209;go_in) | (go_at_call 206;go_in) | fail)
     go_ret
     refine ⟨ret_bool (by simp only [HM.out,HQ.out];try (rw [Bool.eq_iff_iff];simp [idB];try omega)),?_⟩
     ·exact ((Below.refl _ _).alloc (Nat.le_refl _) _).alloc (by simp) _
   ·go_enter Tryz.func212,Tryz.ntmps212
    go_wp2_with (first | (go_at_call 208;refine (H1.out).mono ?_;rintro e w1 ⟨rfl,rfl⟩) | (go_at_call 209;go_in) | (go_at_call 206;go_in) | fail)
    go_ret
    refine ⟨ret_bool (by simp only [HM.out,HQ.out];try (rw [Bool.eq_iff_iff];simp [idB];try omega)),?_⟩
    ·exact ((Below.refl _ _).alloc (Nat.le_refl _) _).alloc (by simp) _
  ·go_enter Tryz.func212,Tryz.ntmps212
   go_wp2_with (first | (go_at_call 208;refine (H1.out).mono ?_;rintro e w1 ⟨rfl,rfl⟩) | (go_at_call 209;go_in) | (go_at_call 206;go_in) | fail)
   go_ret
   refine ⟨ret_bool (by simp only [HM.out,HQ.out];try (rw [Bool.eq_iff_iff];simp [idB];try omega)),?_⟩
   ·exact ((Below.refl _ _).alloc (Nat.le_refl _) _).alloc (by simp) _
set_option maxHeartbeats 800000 in
theorem inRange_Cancel (a:Nat) (ha:a<9223372036854775808) (w:World) :
  Calls Tryz.prog 213 #[.agg #[.int .i64 (a:Int)]] w fun e w'=>e=.returned (.bool (Pl.mays (Pl.kindsL 6) [a]))∧Below w.heap.size w w':=by
 have H1:Hid (Calls Tryz.prog 208 #[.slice (some ⟨w.heap.size+1,0,none⟩) 1 1] ((w.alloc (.cells #[.int .i64 (a:Int)] 101)).alloc (.cells #[.int .i64 (a:Int)] 2)) fun e w'=>e=.returned (.bool ([a].all idB))∧w'=((w.alloc (.cells #[.int .i64 (a:Int)] 101)).alloc (.cells #[.int .i64 (a:Int)] 2))):=by
  have:=isId_any (w.heap.size+1) 1 [a] (by simp) (by simp;omega) ((w.alloc (.cells #[.int .i64 (a:Int)] 101)).alloc (.cells #[.int .i64 (a:Int)] 2)) (by
   have h:=cells_I (w.alloc (.cells #[.int .i64 (a:Int)] 101)) [a] 2 (w.heap.size+1) (by simp)
   exact h)
  exact this
 have HM:Hid (Pl.mays (Pl.kindsL 6) [a]=(([a].all idB))):=by
  show Pl.mays [105] [a]=_
  simp [Pl.mays,mayI,mayC,mayD,mayW,Bool.and_assoc]
 generalize hq:[a].all idB=q at H1
 have HQ:=hide hq
 clear hq
 cases q
 ·go_enter Tryz.func213,Tryz.ntmps213
  go_wp2_with (first | (go_at_call 208;refine (H1.out).mono ?_;rintro e w1 ⟨rfl,rfl⟩) | (go_at_call 209;go_in) | (go_at_call 206;go_in) | fail)
  go_ret
  refine ⟨ret_bool (by simp only [HM.out,HQ.out];try (rw [Bool.eq_iff_iff];simp [idB];try omega)),?_⟩
  ·exact ((Below.refl _ _).alloc (Nat.le_refl _) _).alloc (by simp) _
 ·go_enter Tryz.func213,Tryz.ntmps213
  go_wp2_with (first | (go_at_call 208;refine (H1.out).mono ?_;rintro e w1 ⟨rfl,rfl⟩) | (go_at_call 209;go_in) | (go_at_call 206;go_in) | fail)
  go_ret
  refine ⟨ret_bool (by simp only [HM.out,HQ.out];try (rw [Bool.eq_iff_iff];simp [idB];try omega)),?_⟩
  ·exact ((Below.refl _ _).alloc (Nat.le_refl _) _).alloc (by simp) _
set_option maxHeartbeats 800000 in
theorem inRange_Ship (a:Nat) (ha:a<9223372036854775808) (w:World) :
  Calls Tryz.prog 214 #[.agg #[.int .i64 (a:Int)]] w fun e w'=>e=.returned (.bool (Pl.mays (Pl.kindsL 7) [a]))∧Below w.heap.size w w':=by
 have H1:Hid (Calls Tryz.prog 208 #[.slice (some ⟨w.heap.size+1,0,none⟩) 1 1] ((w.alloc (.cells #[.int .i64 (a:Int)] 103)).alloc (.cells #[.int .i64 (a:Int)] 2)) fun e w'=>e=.returned (.bool ([a].all idB))∧w'=((w.alloc (.cells #[.int .i64 (a:Int)] 103)).alloc (.cells #[.int .i64 (a:Int)] 2))):=by
  have:=isId_any (w.heap.size+1) 1 [a] (by simp) (by simp;omega) ((w.alloc (.cells #[.int .i64 (a:Int)] 103)).alloc (.cells #[.int .i64 (a:Int)] 2)) (by
   have h:=cells_I (w.alloc (.cells #[.int .i64 (a:Int)] 103)) [a] 2 (w.heap.size+1) (by simp)
   exact h)
  exact this
 have HM:Hid (Pl.mays (Pl.kindsL 7) [a]=(([a].all idB))):=by
  show Pl.mays [105] [a]=_
  simp [Pl.mays,mayI,mayC,mayD,mayW,Bool.and_assoc]
 generalize hq:[a].all idB=q at H1
 have HQ:=hide hq
 clear hq
 cases q
 ·go_enter Tryz.func214,Tryz.ntmps214
  go_wp2_with (first | (go_at_call 208;refine (H1.out).mono ?_;rintro e w1 ⟨rfl,rfl⟩) | (go_at_call 209;go_in) | (go_at_call 206;go_in) | fail)
  go_ret
  refine ⟨ret_bool (by simp only [HM.out,HQ.out];try (rw [Bool.eq_iff_iff];simp [idB];try omega)),?_⟩
  ·exact ((Below.refl _ _).alloc (Nat.le_refl _) _).alloc (by simp) _
 ·go_enter Tryz.func214,Tryz.ntmps214
  go_wp2_with (first | (go_at_call 208;refine (H1.out).mono ?_;rintro e w1 ⟨rfl,rfl⟩) | (go_at_call 209;go_in) | (go_at_call 206;go_in) | fail)
  go_ret
  refine ⟨ret_bool (by simp only [HM.out,HQ.out];try (rw [Bool.eq_iff_iff];simp [idB];try omega)),?_⟩
  ·exact ((Below.refl _ _).alloc (Nat.le_refl _) _).alloc (by simp) _
set_option maxHeartbeats 800000 in
theorem inRange_Recall (a b:Nat) (ha:a<9223372036854775808) (hb:b<9223372036854775808) (w:World) :
  Calls Tryz.prog 215 #[.agg #[.int .i64 (a:Int),.int .i64 (b:Int)]] w fun e w'=>e=.returned (.bool (Pl.mays (Pl.kindsL 8) [a,b]))∧Below w.heap.size w w':=by
 have H1:Hid (Calls Tryz.prog 208 #[.slice (some ⟨w.heap.size+1,0,none⟩) 2 2] ((w.alloc (.cells #[.int .i64 (a:Int),.int .i64 (b:Int)] 106)).alloc (.cells #[.int .i64 (a:Int),.int .i64 (b:Int)] 2)) fun e w'=>e=.returned (.bool ([a,b].all idB))∧w'=((w.alloc (.cells #[.int .i64 (a:Int),.int .i64 (b:Int)] 106)).alloc (.cells #[.int .i64 (a:Int),.int .i64 (b:Int)] 2))):=by
  have:=isId_any (w.heap.size+1) 2 [a,b] (by simp) (by simp;omega) ((w.alloc (.cells #[.int .i64 (a:Int),.int .i64 (b:Int)] 106)).alloc (.cells #[.int .i64 (a:Int),.int .i64 (b:Int)] 2)) (by
   have h:=cells_I (w.alloc (.cells #[.int .i64 (a:Int),.int .i64 (b:Int)] 106)) [a,b] 2 (w.heap.size+1) (by simp)
   exact h)
  exact this
 have HM:Hid (Pl.mays (Pl.kindsL 8) [a,b]=(([a,b].all idB))):=by
  show Pl.mays [105,105] [a,b]=_
  simp [Pl.mays,mayI,mayC,mayD,mayW,Bool.and_assoc]
 generalize hq:[a,b].all idB=q at H1
 have HQ:=hide hq
 clear hq
 cases q
 ·go_enter Tryz.func215,Tryz.ntmps215
  go_wp2_with (first | (go_at_call 208;refine (H1.out).mono ?_;rintro e w1 ⟨rfl,rfl⟩) | (go_at_call 209;go_in) | (go_at_call 206;go_in) | fail)
  go_ret
  refine ⟨ret_bool (by simp only [HM.out,HQ.out];try (rw [Bool.eq_iff_iff];simp [idB];try omega)),?_⟩
  ·exact ((Below.refl _ _).alloc (Nat.le_refl _) _).alloc (by simp) _
 ·go_enter Tryz.func215,Tryz.ntmps215
  go_wp2_with (first | (go_at_call 208;refine (H1.out).mono ?_;rintro e w1 ⟨rfl,rfl⟩) | (go_at_call 209;go_in) | (go_at_call 206;go_in) | fail)
  go_ret
  refine ⟨ret_bool (by simp only [HM.out,HQ.out];try (rw [Bool.eq_iff_iff];simp [idB];try omega)),?_⟩
  ·exact ((Below.refl _ _).alloc (Nat.le_refl _) _).alloc (by simp) _
set_option maxHeartbeats 800000 in
theorem inRange_Release (a b:Nat) (ha:a<9223372036854775808) (hb:b<9223372036854775808) (w:World) :
  Calls Tryz.prog 216 #[.agg #[.int .i64 (a:Int),.int .i64 (b:Int)]] w fun e w'=>e=.returned (.bool (Pl.mays (Pl.kindsL 9) [a,b]))∧Below w.heap.size w w':=by
 have H1:Hid (Calls Tryz.prog 208 #[.slice (some ⟨w.heap.size+1,0,none⟩) 2 2] ((w.alloc (.cells #[.int .i64 (a:Int),.int .i64 (b:Int)] 108)).alloc (.cells #[.int .i64 (a:Int),.int .i64 (b:Int)] 2)) fun e w'=>e=.returned (.bool ([a,b].all idB))∧w'=((w.alloc (.cells #[.int .i64 (a:Int),.int .i64 (b:Int)] 108)).alloc (.cells #[.int .i64 (a:Int),.int .i64 (b:Int)] 2))):=by
  have:=isId_any (w.heap.size+1) 2 [a,b] (by simp) (by simp;omega) ((w.alloc (.cells #[.int .i64 (a:Int),.int .i64 (b:Int)] 108)).alloc (.cells #[.int .i64 (a:Int),.int .i64 (b:Int)] 2)) (by
   have h:=cells_I (w.alloc (.cells #[.int .i64 (a:Int),.int .i64 (b:Int)] 108)) [a,b] 2 (w.heap.size+1) (by simp)
   exact h)
  exact this
 have HM:Hid (Pl.mays (Pl.kindsL 9) [a,b]=(([a,b].all idB))):=by
  show Pl.mays [105,105] [a,b]=_
  simp [Pl.mays,mayI,mayC,mayD,mayW,Bool.and_assoc]
 generalize hq:[a,b].all idB=q at H1
 have HQ:=hide hq
 clear hq
 cases q
 ·go_enter Tryz.func216,Tryz.ntmps216
  go_wp2_with (first | (go_at_call 208;refine (H1.out).mono ?_;rintro e w1 ⟨rfl,rfl⟩) | (go_at_call 209;go_in) | (go_at_call 206;go_in) | fail)
  go_ret
  refine ⟨ret_bool (by simp only [HM.out,HQ.out];try (rw [Bool.eq_iff_iff];simp [idB];try omega)),?_⟩
  ·exact ((Below.refl _ _).alloc (Nat.le_refl _) _).alloc (by simp) _
 ·go_enter Tryz.func216,Tryz.ntmps216
  go_wp2_with (first | (go_at_call 208;refine (H1.out).mono ?_;rintro e w1 ⟨rfl,rfl⟩) | (go_at_call 209;go_in) | (go_at_call 206;go_in) | fail)
  go_ret
  refine ⟨ret_bool (by simp only [HM.out,HQ.out];try (rw [Bool.eq_iff_iff];simp [idB];try omega)),?_⟩
  ·exact ((Below.refl _ _).alloc (Nat.le_refl _) _).alloc (by simp) _
set_option maxHeartbeats 800000 in
theorem inRange_Scrap (a b:Nat) (ha:a<9223372036854775808) (hb:b<9223372036854775808) (w:World) :
  Calls Tryz.prog 217 #[.agg #[.int .i64 (a:Int),.int .i64 (b:Int)]] w fun e w'=>e=.returned (.bool (Pl.mays (Pl.kindsL 10) [a,b]))∧Below w.heap.size w w':=by
 have H1:Hid (Calls Tryz.prog 208 #[.slice (some ⟨w.heap.size+1,0,none⟩) 1 1] ((w.alloc (.cells #[.int .i64 (a:Int),.int .i64 (b:Int)] 111)).alloc (.cells #[.int .i64 (a:Int)] 2)) fun e w'=>e=.returned (.bool ([a].all idB))∧w'=((w.alloc (.cells #[.int .i64 (a:Int),.int .i64 (b:Int)] 111)).alloc (.cells #[.int .i64 (a:Int)] 2))):=by
  have:=isId_any (w.heap.size+1) 1 [a] (by simp) (by simp;omega) ((w.alloc (.cells #[.int .i64 (a:Int),.int .i64 (b:Int)] 111)).alloc (.cells #[.int .i64 (a:Int)] 2)) (by
   have h:=cells_I (w.alloc (.cells #[.int .i64 (a:Int),.int .i64 (b:Int)] 111)) [a] 2 (w.heap.size+1) (by simp)
   exact h)
  exact this
 have HM:Hid (Pl.mays (Pl.kindsL 10) [a,b]=(([a].all idB) && idB b)):=by
  show Pl.mays [105,99] [a,b]=_
  simp [Pl.mays,mayI,mayC,mayD,mayW,Bool.and_assoc]
 generalize hq:[a].all idB=q at H1
 have HQ:=hide hq
 clear hq
 cases q
 ·go_enter Tryz.func217,Tryz.ntmps217
  go_wp2_with (first | (go_at_call 208;refine (H1.out).mono ?_;rintro e w1 ⟨rfl,rfl⟩) | (go_at_call 209;go_in) | (go_at_call 206;go_in) | fail)
  go_ret
  refine ⟨ret_bool (by simp only [HM.out,HQ.out];try (rw [Bool.eq_iff_iff];simp [idB];try omega)),?_⟩
  ·exact ((Below.refl _ _).alloc (Nat.le_refl _) _).alloc (by simp) _
 ·rcases (show b<1∨(1≤b∧b≤2147483647)∨2147483647<b from by omega) with qb | qb | qb
  ·go_enter Tryz.func217,Tryz.ntmps217
   go_wp2_with (first | (go_at_call 208;refine (H1.out).mono ?_;rintro e w1 ⟨rfl,rfl⟩) | (go_at_call 209;go_in) | (go_at_call 206;go_in) | fail)
   go_ret
   refine ⟨ret_bool (by simp only [HM.out,HQ.out];try (rw [Bool.eq_iff_iff];simp [idB];try omega)),?_⟩
   ·exact ((Below.refl _ _).alloc (Nat.le_refl _) _).alloc (by simp) _
  ·obtain ⟨qb1,qb2⟩:=qb
   go_enter Tryz.func217,Tryz.ntmps217
   go_wp2_with (first | (go_at_call 208;refine (H1.out).mono ?_;rintro e w1 ⟨rfl,rfl⟩) | (go_at_call 209;go_in) | (go_at_call 206;go_in) | fail)
   go_ret
   refine ⟨ret_bool (by simp only [HM.out,HQ.out];try (rw [Bool.eq_iff_iff];simp [idB];try omega)),?_⟩
   ·exact ((Below.refl _ _).alloc (Nat.le_refl _) _).alloc (by simp) _
  ·go_enter Tryz.func217,Tryz.ntmps217
   go_wp2_with (first | (go_at_call 208;refine (H1.out).mono ?_;rintro e w1 ⟨rfl,rfl⟩) | (go_at_call 209;go_in) | (go_at_call 206;go_in) | fail)
   go_ret
   refine ⟨ret_bool (by simp only [HM.out,HQ.out];try (rw [Bool.eq_iff_iff];simp [idB];try omega)),?_⟩
   ·exact ((Below.refl _ _).alloc (Nat.le_refl _) _).alloc (by simp) _
set_option maxHeartbeats 800000 in
theorem inRange_Look (a:Nat) (ha:a<9223372036854775808) (w:World) :
  Calls Tryz.prog 218 #[.agg #[.int .i64 (a:Int)]] w fun e w'=>e=.returned (.bool (Pl.mays (Pl.kindsL 11) [a]))∧Below w.heap.size w w':=by
 have H1:Hid (Calls Tryz.prog 208 #[.slice (some ⟨w.heap.size+1,0,none⟩) 1 1] ((w.alloc (.cells #[.int .i64 (a:Int)] 114)).alloc (.cells #[.int .i64 (a:Int)] 2)) fun e w'=>e=.returned (.bool ([a].all idB))∧w'=((w.alloc (.cells #[.int .i64 (a:Int)] 114)).alloc (.cells #[.int .i64 (a:Int)] 2))):=by
  have:=isId_any (w.heap.size+1) 1 [a] (by simp) (by simp;omega) ((w.alloc (.cells #[.int .i64 (a:Int)] 114)).alloc (.cells #[.int .i64 (a:Int)] 2)) (by
   have h:=cells_I (w.alloc (.cells #[.int .i64 (a:Int)] 114)) [a] 2 (w.heap.size+1) (by simp)
   exact h)
  exact this
 have HM:Hid (Pl.mays (Pl.kindsL 11) [a]=(([a].all idB))):=by
  show Pl.mays [105] [a]=_
  simp [Pl.mays,mayI,mayC,mayD,mayW,Bool.and_assoc]
 generalize hq:[a].all idB=q at H1
 have HQ:=hide hq
 clear hq
 cases q
 ·go_enter Tryz.func218,Tryz.ntmps218
  go_wp2_with (first | (go_at_call 208;refine (H1.out).mono ?_;rintro e w1 ⟨rfl,rfl⟩) | (go_at_call 209;go_in) | (go_at_call 206;go_in) | fail)
  go_ret
  refine ⟨ret_bool (by simp only [HM.out,HQ.out];try (rw [Bool.eq_iff_iff];simp [idB];try omega)),?_⟩
  ·exact ((Below.refl _ _).alloc (Nat.le_refl _) _).alloc (by simp) _
 ·go_enter Tryz.func218,Tryz.ntmps218
  go_wp2_with (first | (go_at_call 208;refine (H1.out).mono ?_;rintro e w1 ⟨rfl,rfl⟩) | (go_at_call 209;go_in) | (go_at_call 206;go_in) | fail)
  go_ret
  refine ⟨ret_bool (by simp only [HM.out,HQ.out];try (rw [Bool.eq_iff_iff];simp [idB];try omega)),?_⟩
  ·exact ((Below.refl _ _).alloc (Nat.le_refl _) _).alloc (by simp) _
set_option maxHeartbeats 800000 in
theorem inRange_Supply (a b:Nat) (ha:a<9223372036854775808) (hb:b<9223372036854775808) (w:World) :
  Calls Tryz.prog 219 #[.agg #[.int .i64 (a:Int),.int .i64 (b:Int)]] w fun e w'=>e=.returned (.bool (Pl.mays (Pl.kindsL 12) [a,b]))∧Below w.heap.size w w':=by
 have H1:Hid (Calls Tryz.prog 208 #[.slice (some ⟨w.heap.size+1,0,none⟩) 1 1] ((w.alloc (.cells #[.int .i64 (a:Int),.int .i64 (b:Int)] 117)).alloc (.cells #[.int .i64 (a:Int)] 2)) fun e w'=>e=.returned (.bool ([a].all idB))∧w'=((w.alloc (.cells #[.int .i64 (a:Int),.int .i64 (b:Int)] 117)).alloc (.cells #[.int .i64 (a:Int)] 2))):=by
  have:=isId_any (w.heap.size+1) 1 [a] (by simp) (by simp;omega) ((w.alloc (.cells #[.int .i64 (a:Int),.int .i64 (b:Int)] 117)).alloc (.cells #[.int .i64 (a:Int)] 2)) (by
   have h:=cells_I (w.alloc (.cells #[.int .i64 (a:Int),.int .i64 (b:Int)] 117)) [a] 2 (w.heap.size+1) (by simp)
   exact h)
  exact this
 have HM:Hid (Pl.mays (Pl.kindsL 12) [a,b]=(([a].all idB) && decide (b≤2147483647))):=by
  show Pl.mays [105,100] [a,b]=_
  simp [Pl.mays,mayI,mayC,mayD,mayW,Bool.and_assoc]
 generalize hq:[a].all idB=q at H1
 have HQ:=hide hq
 clear hq
 cases q
 ·go_enter Tryz.func219,Tryz.ntmps219
  go_wp2_with (first | (go_at_call 208;refine (H1.out).mono ?_;rintro e w1 ⟨rfl,rfl⟩) | (go_at_call 209;go_in) | (go_at_call 206;go_in) | fail)
  go_ret
  refine ⟨ret_bool (by simp only [HM.out,HQ.out];try (rw [Bool.eq_iff_iff];simp [idB];try omega)),?_⟩
  ·exact ((Below.refl _ _).alloc (Nat.le_refl _) _).alloc (by simp) _
 ·rcases (show b≤2147483647∨2147483647<b from by omega) with qb | qb
  ·go_enter Tryz.func219,Tryz.ntmps219
   go_wp2_with (first | (go_at_call 208;refine (H1.out).mono ?_;rintro e w1 ⟨rfl,rfl⟩) | (go_at_call 209;go_in) | (go_at_call 206;go_in) | fail)
   go_ret
   refine ⟨ret_bool (by simp only [HM.out,HQ.out];try (rw [Bool.eq_iff_iff];simp [idB];try omega)),?_⟩
   ·exact ((Below.refl _ _).alloc (Nat.le_refl _) _).alloc (by simp) _
  ·go_enter Tryz.func219,Tryz.ntmps219
   go_wp2_with (first | (go_at_call 208;refine (H1.out).mono ?_;rintro e w1 ⟨rfl,rfl⟩) | (go_at_call 209;go_in) | (go_at_call 206;go_in) | fail)
   go_ret
   refine ⟨ret_bool (by simp only [HM.out,HQ.out];try (rw [Bool.eq_iff_iff];simp [idB];try omega)),?_⟩
   ·exact ((Below.refl _ _).alloc (Nat.le_refl _) _).alloc (by simp) _
end Go.Proofs.YtgcedalggnmooabGreatDoor
