import Derived.Test.YtgcedalggnmooabGreatDoorRp1X
set_option linter.unusedSimpArgs false
set_option linter.unusedVariables false
set_option maxRecDepth 100000
namespace Go.Proofs.YtgcedalggnmooabGreatDoor
open Go.RowKit
def DoP (Z:Nat→Prop) (w:World) (S:Nat) (r:List UInt8 × Nat × List O × List (Nat × Nat) × List L) (e:Ending) (w':World):Prop :=
 Kp Z w w'∧PI r.2.2.1 r.2.2.2.1 (Zn Z w) w' S r.2.1 r.2.2.2.2∧∃ vn ms er,e=.returned (.tuple #[vn,.int .i64 ((er:Nat):Int)])∧er<256∧Nums w' vn ms∧r.1=UInt8.ofNat er :: Pl.toldB ms
theorem DoP.code {Z:Nat→Prop} {w w':World} {S:Nat} {r:List UInt8 × Nat × List O × List (Nat × Nat) × List L} {e:Ending} (er:Nat) (h1:Kp Z w w') (h2:e=.returned (.tuple #[.slice none 0 0,.int .i64 ((er:Nat):Int)])) (h3:PI r.2.2.1 r.2.2.2.1 (Zn Z w) w' S r.2.1 r.2.2.2.2) (h4:er<256) (h5:r.1=[UInt8.ofNat er]):DoP Z w S r e w' :=
 ⟨h1,h3,_,[],er,h2,h4,Nums.nil _,by rw [h5];rfl⟩
theorem Rw.nums {w:World} {g:Nat} {ns:List Nat} (h:Rw w g ns) (c:Nat) (h1:0<ns.length) (h2:ns.length≤1000) (h3:∀ n ∈ ns,n<9223372036854775808):Nums w (.slice (some ⟨g,0,none⟩) ns.length c) ns:=Or.inr ⟨g,c,rfl,h.1,h1,h2,h3,h.2⟩
theorem doR_any {rcs:List (Nat × Nat)} {Z:Nat→Prop} {w:World} {S td:Nat} {ls:List L} {os:List O} (h:PI os rcs Z w S td ls) (hgo:Good os ls) (c:Nat) (ns:List Nat) (hc1:1≤c) (hc2:c≤12) (hlen:ns.length=(Pl.kindsL c).length) (hm:Pl.mays (Pl.kindsL c) ns=true) :
  Calls Tryz.prog 35 #[.pointer (some ⟨S,0,none⟩),.iface (tyOf c) (.agg (I ns).toArray)] w (DoP Z w S (stepR rcs td os ls (.ok (c,ns)))):=by
 rcases (show c=1∨c=2∨c=3∨c=4∨c=5∨c=6∨c=7∨c=8∨c=9∨c=10∨c=11∨c=12 from by omega) with rfl | rfl | rfl | rfl | rfl | rfl | rfl | rfl | rfl | rfl | rfl | rfl
 ·obtain ⟨a,rfl⟩:=len1 hlen
  have hbd:a≤2147483647:=by simp [Pl.mays,Pl.kindsL,Pl.mayB] at hm;omega
  refine (do_day h a hbd).mono ?_
  rintro e w' ⟨hk,⟨h1,h2,h3⟩ | ⟨h1,h2,h3⟩⟩
  ·have e1:stepR rcs td os ls (.ok (1,[a]))=([3],td,os,rcs,ls):=by simp [stepR,stepO,stepT,stepS,h1]
   rw [e1];exact DoP.code 3 hk h2 h3 (by omega) rfl
  ·have e1:stepR rcs td os ls (.ok (1,[a]))=([0],a,os,rcs,ls):=by simp [stepR,stepO,stepT,stepS,show ¬ a<td by omega]
   rw [e1];exact DoP.code 0 hk h2 h3 (by omega) rfl
 ·obtain ⟨a,b,c,d,rfl⟩:=len4 hlen
  have hbd:a≤2147483647∧b≤2147483647∧c≤2147483647∧d≤2147483647:=by simp [Pl.mays,Pl.kindsL,Pl.mayB] at hm;omega
  refine (do_receive h a b c d hbd.1 hbd.2.1 hbd.2.2.1 hbd.2.2.2).mono ?_
  rintro e w' ⟨hk,h2,h3⟩
  have hr:=roomC_le ls a
  exact DoP.code (roomC ls a) hk h2 h3 (by omega) rfl
 ·obtain ⟨a,b,c,rfl⟩:=len3 hlen
  have hbd:a≤2147483647∧b≤2147483647∧c≤2147483647:=by simp [Pl.mays,Pl.kindsL,Pl.mayB] at hm;omega
  refine (do_split h a b c hbd.1 hbd.2.1 hbd.2.2).mono ?_
  rintro e w' ⟨hk,h2,h3⟩
  have hr:=splitC_le ls a b c
  exact DoP.code (splitC ls a b c) hk h2 h3 (by omega) rfl
 ·obtain ⟨a,b,c,rfl⟩:=len3 hlen
  have hbd:a≤2147483647∧b≤2147483647∧c≤2147483647:=by simp [Pl.mays,Pl.kindsL,Pl.mayB] at hm;omega
  refine (do_merge h a b c hbd.1 hbd.2.1 hbd.2.2).mono ?_
  rintro e w' ⟨hk,h2,h3⟩
  have hr:=mergeC_le ls a b c
  exact DoP.code (mergeC ls a b c) hk h2 h3 (by omega) rfl
 ·obtain ⟨a,b,c,d,f,rfl⟩:=len5 hlen
  have hbd:a≤2147483647∧b≤2147483647∧c≤2147483647∧d≤2147483647∧f≤3:=by simp [Pl.mays,Pl.kindsL,Pl.mayB] at hm;omega
  refine (do_order h hgo a b c d f hbd.1 hbd.2.1 hbd.2.2.1 hbd.2.2.2.1 hbd.2.2.2.2).mono ?_
  have hac:=askC_le (rcs:=rcs) os td ls a b c d f
  rintro e w' ⟨hk,h3,⟨hne,h2⟩ | ⟨h0,g,cc,h2,hrw⟩⟩
  ·refine DoP.code (askC rcs os td ls a b c d f) hk h2 h3 (by omega) ?_
   show askR rcs os td ls a b c d f=_
   unfold askR;rw [if_neg hne]
  ·have hts:(∀ n ∈ toldQ ls (linesQ rcs td b c d f ls),n<9223372036854775808)∧(toldQ ls (linesQ rcs td b c d f ls)).length≤61:=by
    obtain ⟨M,v,bs,pvs,hP,_⟩:=h
    exact toldQ_small hP.ok hP.room td b c d f
   refine ⟨hk,h3,_,_,0,h2,by omega,hrw.nums cc (by simp [toldQ]) (by omega) hts.1,?_⟩
   show askR rcs os td ls a b c d f=_
   unfold askR;rw [if_pos h0];rfl
 ·obtain ⟨a,rfl⟩:=len1 hlen
  have hbd:a≤2147483647:=by simp [Pl.mays,Pl.kindsL,Pl.mayB] at hm;omega
  refine (do_cancel h hgo a hbd).mono ?_
  rintro e w' ⟨hk,h2,h3⟩
  have hr:=endC_le os a
  exact DoP.code (endC os a) hk h2 h3 (by omega) rfl
 ·obtain ⟨a,rfl⟩:=len1 hlen
  have hbd:a≤2147483647:=by simp [Pl.mays,Pl.kindsL,Pl.mayB] at hm;omega
  refine (do_ship h hgo a hbd).mono ?_
  rintro e w' ⟨hk,h2,h3⟩
  have hr:=endC_le os a
  exact DoP.code (endC os a) hk h2 h3 (by omega) rfl
 ·obtain ⟨a,b,rfl⟩:=len2 hlen
  have hbd:a≤2147483647∧b≤2147483647:=by simp [Pl.mays,Pl.kindsL,Pl.mayB] at hm;omega
  refine (do_recall h hgo a b hbd.1 hbd.2).mono ?_
  have hrc:=recallC_le rcs ls a b
  rintro e w' ⟨hk,h3,⟨hne,h2⟩ | ⟨h0,g,cc,h2,hrw⟩⟩
  ·refine DoP.code (recallC rcs ls a b) hk h2 h3 (by omega) ?_
   show recallR rcs ls a b=_
   unfold recallR;rw [if_neg hne]
  ·have hts:(∀ n ∈ toldQ ls (heldQ ls a),n<9223372036854775808)∧(toldQ ls (heldQ ls a)).length≤61:=by
    obtain ⟨M,v,bs,pvs,hP,_⟩:=h
    exact heldT_small hP.ok hP.room a
   refine ⟨hk,h3,_,_,0,h2,by omega,hrw.nums cc (by simp [toldQ]) (by omega) hts.1,?_⟩
   show recallR rcs ls a b=_
   unfold recallR;rw [if_pos h0];rfl
 ·obtain ⟨a,b,rfl⟩:=len2 hlen
  have hbd:a≤2147483647∧b≤2147483647:=by simp [Pl.mays,Pl.kindsL,Pl.mayB] at hm;omega
  refine (do_release h a b hbd.1 hbd.2).mono ?_
  rintro e w' ⟨hk,h2,h3⟩
  have hr:=releaseC_le rcs a b
  exact DoP.code (releaseC rcs a b) hk h2 h3 (by omega) rfl
 ·obtain ⟨a,b,rfl⟩:=len2 hlen
  have hbd:a≤2147483647∧b≤2147483647:=by simp [Pl.mays,Pl.kindsL,Pl.mayB] at hm;omega
  refine (do_scrap h a b hbd.1 hbd.2).mono ?_
  rintro e w' ⟨hk,h2,h3⟩
  have hr:=scrapC_le ls a b
  exact DoP.code (scrapC ls a b) hk h2 h3 (by omega) rfl
 ·obtain ⟨a,rfl⟩:=len1 hlen
  have hbd:a≤2147483647:=by simp [Pl.mays,Pl.kindsL,Pl.mayB] at hm;omega
  obtain ⟨M,v,bs,pvs,hP,hin⟩:=h
  refine (do_look hP a hbd).mono ?_
  rintro e w' ⟨hb,⟨hi,g,h2,hgc⟩ | ⟨hi,h2⟩⟩
  ·have e1:stepR rcs td os ls (.ok (11,[a]))=(0 :: Pl.toldB (lookL (recB rcs ls) (ls.getD (idx a ls) L0)),td,os,rcs,ls):=by simp [stepR,stepO,stepT,stepS,hi]
   rw [e1]
   have hl:=hP.ok _ (mem_getD hi)
   generalize ls.getD (idx a ls) L0=l at hl hgc ⊢
   have hrw:Rw w' g (lookL (recB rcs ls) l):=⟨blk_lt hgc,fun j hj=>by rw [blk_cell hgc];simp [I,List.getD_eq_getElem?_getD,hj]⟩
   refine ⟨kpB hb,(PI.below ⟨M,v,bs,pvs,hP,hin⟩ hb).mono (fun _ hk=>Or.inl hk),_,_,0,h2,by omega,hrw.nums 10 (by simp [lookL]) (by simp [lookL]) ?_,rfl⟩
   obtain ⟨q1,q2,q3,q4,q5,q6,_⟩:=hl
   simp only [lookL,List.mem_cons,List.not_mem_nil,or_false]
   rintro n (rfl | rfl | rfl | rfl | rfl | rfl | rfl | rfl | rfl | rfl) <;> (try split) <;> omega
  ·have e1:stepR rcs td os ls (.ok (11,[a]))=([4],td,os,rcs,ls):=by simp [stepR,stepO,stepT,stepS,hi]
   rw [e1];exact DoP.code 4 (kpB hb) h2 ((PI.below ⟨M,v,bs,pvs,hP,hin⟩ hb).mono (fun _ hk=>Or.inl hk)) (by omega) rfl
 ·obtain ⟨a,b,rfl⟩:=len2 hlen
  have hbd:a≤2147483647∧b≤2147483647:=by simp [Pl.mays,Pl.kindsL,Pl.mayB] at hm;omega
  obtain ⟨M,v,bs,pvs,hP,hin⟩:=h
  refine (do_supply hP a b hbd.1 hbd.2).mono ?_
  rintro e w' ⟨hb,g,h2,hgc⟩
  have hok:=hP.ok
  have hpl:=hP.room
  have hrw:Rw w' g (supL rcs td a b ls):=⟨blk_lt hgc,fun j hj=>by rw [blk_cell hgc];simp [I,List.getD_eq_getElem?_getD,hj]⟩
  refine ⟨kpB hb,(PI.below ⟨M,v,bs,pvs,hP,hin⟩ hb).mono (fun _ hk=>Or.inl hk),_,_,0,h2,by omega,hrw.nums 2 (by simp [supL]) (by simp [supL]) ?_,rfl⟩
  have h1:=srvI_len (rcs:=rcs) td a b ls ls.length
  have h2:=freeOf_le ls hok (srvI rcs td a b ls ls.length) (fun i hi=>srvI_lt hi)
  simp only [supL,List.mem_cons,List.not_mem_nil,or_false]
  rintro n (rfl | rfl)
  ·omega
  ·have:2147483647 * (srvI rcs td a b ls ls.length).length≤2147483647 * 30:=Nat.mul_le_mul_left _ (by omega)
   omega
def fmOf:Nat→Nat
 | 1=>205 | 2=>207 | 3=>210 | 4=>211 | 5=>212 | 6=>213 | 7=>214 | 8=>215 | 9=>216 | 10=>217 | 11=>218 | _=>219
theorem meth_any (c : Nat) (hc1 : 1 ≤ c) (hc2 : c ≤ 12) (v : Value) (w : World) : (method 380 (tyOf c) v "InRange").run Tryz.prog w = .ok (fmOf c, v) w := by
 rcases (show c=1∨c=2∨c=3∨c=4∨c=5∨c=6∨c=7∨c=8∨c=9∨c=10∨c=11∨c=12 from by omega) with rfl | rfl | rfl | rfl | rfl | rfl | rfl | rfl | rfl | rfl | rfl | rfl
 ·exact meth_Day v w
 ·exact meth_Receive v w
 ·exact meth_Split v w
 ·exact meth_Merge v w
 ·exact meth_Order v w
 ·exact meth_Cancel v w
 ·exact meth_Ship v w
 ·exact meth_Recall v w
 ·exact meth_Release v w
 ·exact meth_Scrap v w
 ·exact meth_Look v w
 ·exact meth_Supply v w
theorem enter_any (c:Nat) (hc1:1≤c) (hc2:c≤12) (args:Array Value) (w:World):(callFunc (fmOf c) args).run Tryz.prog w=.ok (.enter (fmOf c) args) w:=by
 rcases (show c=1∨c=2∨c=3∨c=4∨c=5∨c=6∨c=7∨c=8∨c=9∨c=10∨c=11∨c=12 from by omega) with rfl | rfl | rfl | rfl | rfl | rfl | rfl | rfl | rfl | rfl | rfl | rfl
 ·exact enters_of Tryz.func205 (by kernel_rfl) rfl args w
 ·exact enters_of Tryz.func207 (by kernel_rfl) rfl args w
 ·exact enters_of Tryz.func210 (by kernel_rfl) rfl args w
 ·exact enters_of Tryz.func211 (by kernel_rfl) rfl args w
 ·exact enters_of Tryz.func212 (by kernel_rfl) rfl args w
 ·exact enters_of Tryz.func213 (by kernel_rfl) rfl args w
 ·exact enters_of Tryz.func214 (by kernel_rfl) rfl args w
 ·exact enters_of Tryz.func215 (by kernel_rfl) rfl args w
 ·exact enters_of Tryz.func216 (by kernel_rfl) rfl args w
 ·exact enters_of Tryz.func217 (by kernel_rfl) rfl args w
 ·exact enters_of Tryz.func218 (by kernel_rfl) rfl args w
 ·exact enters_of Tryz.func219 (by kernel_rfl) rfl args w
theorem inr_any (c:Nat) (ns:List Nat) (hc1:1≤c) (hc2:c≤12) (hlen:ns.length=(Pl.kindsL c).length) (hlt:∀ n ∈ ns,n<9223372036854775808) (w:World) :
  Calls Tryz.prog (fmOf c) #[.agg (I ns).toArray] w fun e w'=>e=.returned (.bool (Pl.mays (Pl.kindsL c) ns))∧Below w.heap.size w w':=by
 rcases (show c=1∨c=2∨c=3∨c=4∨c=5∨c=6∨c=7∨c=8∨c=9∨c=10∨c=11∨c=12 from by omega) with rfl | rfl | rfl | rfl | rfl | rfl | rfl | rfl | rfl | rfl | rfl | rfl
 ·obtain ⟨a,rfl⟩:=len1 hlen
  exact inRange_Day a (hlt a (by simp)) w
 ·obtain ⟨a,b,c,d,rfl⟩:=len4 hlen
  exact inRange_Receive a b c d (hlt a (by simp)) (hlt b (by simp)) (hlt c (by simp)) (hlt d (by simp)) w
 ·obtain ⟨a,b,c,rfl⟩:=len3 hlen
  exact inRange_Split a b c (hlt a (by simp)) (hlt b (by simp)) (hlt c (by simp)) w
 ·obtain ⟨a,b,c,rfl⟩:=len3 hlen
  exact inRange_Merge a b c (hlt a (by simp)) (hlt b (by simp)) (hlt c (by simp)) w
 ·obtain ⟨a,b,c,d,f,rfl⟩:=len5 hlen
  exact inRange_Order a b c d f (hlt a (by simp)) (hlt b (by simp)) (hlt c (by simp)) (hlt d (by simp)) (hlt f (by simp)) w
 ·obtain ⟨a,rfl⟩:=len1 hlen
  exact inRange_Cancel a (hlt a (by simp)) w
 ·obtain ⟨a,rfl⟩:=len1 hlen
  exact inRange_Ship a (hlt a (by simp)) w
 ·obtain ⟨a,b,rfl⟩:=len2 hlen
  exact inRange_Recall a b (hlt a (by simp)) (hlt b (by simp)) w
 ·obtain ⟨a,b,rfl⟩:=len2 hlen
  exact inRange_Release a b (hlt a (by simp)) (hlt b (by simp)) w
 ·obtain ⟨a,b,rfl⟩:=len2 hlen
  exact inRange_Scrap a b (hlt a (by simp)) (hlt b (by simp)) w
 ·obtain ⟨a,rfl⟩:=len1 hlen
  exact inRange_Look a (hlt a (by simp)) w
 ·obtain ⟨a,b,rfl⟩:=len2 hlen
  exact inRange_Supply a b (hlt a (by simp)) (hlt b (by simp)) w
set_option maxHeartbeats 1600000 in
theorem logged_any (c:Nat) (hc1:1≤c) (hc2:c≤12) (v:Value) (w:World) :
  Calls Tryz.prog 36 #[.iface (tyOf c) v] w fun e w'=>e=.returned (.bool (decide (c≤10)))∧w'=w:=by
 rcases (show c=1∨c=2∨c=3∨c=4∨c=5∨c=6∨c=7∨c=8∨c=9∨c=10∨c=11∨c=12 from by omega) with rfl | rfl | rfl | rfl | rfl | rfl | rfl | rfl | rfl | rfl | rfl | rfl
 ·have t1:=as_Day_Look
  have t2:=as_Day_Supply
  show Calls Tryz.prog 36 #[.iface 86 v] w _
  go_enter Tryz.func36,Tryz.ntmps36
  go_wp2_with fail
  go_ret
  exact ⟨rfl,rfl⟩
 ·have t1:=as_Receive_Look
  have t2:=as_Receive_Supply
  show Calls Tryz.prog 36 #[.iface 89 v] w _
  go_enter Tryz.func36,Tryz.ntmps36
  go_wp2_with fail
  go_ret
  exact ⟨rfl,rfl⟩
 ·have t1:=as_Split_Look
  have t2:=as_Split_Supply
  show Calls Tryz.prog 36 #[.iface 92 v] w _
  go_enter Tryz.func36,Tryz.ntmps36
  go_wp2_with fail
  go_ret
  exact ⟨rfl,rfl⟩
 ·have t1:=as_Merge_Look
  have t2:=as_Merge_Supply
  show Calls Tryz.prog 36 #[.iface 95 v] w _
  go_enter Tryz.func36,Tryz.ntmps36
  go_wp2_with fail
  go_ret
  exact ⟨rfl,rfl⟩
 ·have t1:=as_Order_Look
  have t2:=as_Order_Supply
  show Calls Tryz.prog 36 #[.iface 98 v] w _
  go_enter Tryz.func36,Tryz.ntmps36
  go_wp2_with fail
  go_ret
  exact ⟨rfl,rfl⟩
 ·have t1:=as_Cancel_Look
  have t2:=as_Cancel_Supply
  show Calls Tryz.prog 36 #[.iface 101 v] w _
  go_enter Tryz.func36,Tryz.ntmps36
  go_wp2_with fail
  go_ret
  exact ⟨rfl,rfl⟩
 ·have t1:=as_Ship_Look
  have t2:=as_Ship_Supply
  show Calls Tryz.prog 36 #[.iface 103 v] w _
  go_enter Tryz.func36,Tryz.ntmps36
  go_wp2_with fail
  go_ret
  exact ⟨rfl,rfl⟩
 ·have t1:=as_Recall_Look
  have t2:=as_Recall_Supply
  show Calls Tryz.prog 36 #[.iface 106 v] w _
  go_enter Tryz.func36,Tryz.ntmps36
  go_wp2_with fail
  go_ret
  exact ⟨rfl,rfl⟩
 ·have t1:=as_Release_Look
  have t2:=as_Release_Supply
  show Calls Tryz.prog 36 #[.iface 108 v] w _
  go_enter Tryz.func36,Tryz.ntmps36
  go_wp2_with fail
  go_ret
  exact ⟨rfl,rfl⟩
 ·have t1:=as_Scrap_Look
  have t2:=as_Scrap_Supply
  show Calls Tryz.prog 36 #[.iface 111 v] w _
  go_enter Tryz.func36,Tryz.ntmps36
  go_wp2_with fail
  go_ret
  exact ⟨rfl,rfl⟩
 ·have t1:=as_Look_Look
  have t2:=as_Look_Supply
  show Calls Tryz.prog 36 #[.iface 114 v] w _
  go_enter Tryz.func36,Tryz.ntmps36
  go_wp2_with fail
  go_ret
  exact ⟨rfl,rfl⟩
 ·have t1:=as_Supply_Look
  have t2:=as_Supply_Supply
  show Calls Tryz.prog 36 #[.iface 117 v] w _
  go_enter Tryz.func36,Tryz.ntmps36
  go_wp2_with fail
  go_ret
  exact ⟨rfl,rfl⟩
end Go.Proofs.YtgcedalggnmooabGreatDoor
namespace Go.Proofs.YtgcedalggnmooabGreatDoor
open Go.RowKit
def lgX (lg:List UInt8) (s:ByteArray) (rep:List UInt8):List UInt8:=if logsB s.data.toList rep=true then lg++frmB s.data.toList else lg
def LdoP (lg:List UInt8) (s:ByteArray) (Z:Nat→Prop) (w:World) (Lb:Nat) (r:List UInt8 × Nat × List O × List (Nat × Nat) × List L) (e:Ending) (w':World):Prop :=
 (∃ vn ms er,e=.returned (.tuple #[vn,.int .i64 ((er:Nat):Int)])∧er<256∧Nums w' vn ms∧r.1=UInt8.ofNat er :: Pl.toldB ms)∧Kp Z w w'∧PL (lgX lg s r.1) r.2.2.1 r.2.2.2.1 (Zn Z w) w' Lb r.2.1 r.2.2.2.2
theorem PS.bnd {lg:List UInt8} {rcs:List (Nat × Nat)} {Z:Nat→Prop} {w:World} {Lb td:Nat} {ls:List L} {os:List O} {S:Nat} {Zs:Nat→Prop} {lv:Value} (h:PS lg os rcs Z w Lb td ls S Zs lv):PS lg os rcs Z w Lb td ls S (fun k=>Zs k∧k<w.heap.size) lv:=by
 obtain ⟨M,v,bs,pvs,h5,h6⟩:=h.pi
 exact ⟨h.here,h.inZ,fun q=>h.out q.1,fun k q=>h.sub k q.1,⟨M,v,bs,pvs,h5,h5.bound h6⟩,h.log,fun k hk=>⟨(h.blk k hk).1,(h.blk k hk).2.1,fun q=>(h.blk k hk).2.2 q.1⟩⟩
theorem frmB_ne (c:List UInt8):frmB c≠[]:=fun h=>by
 have:=congrArg List.length h
 simp [frmB,chkB_len] at this
theorem Nums.away {w w':World} {v:Value} {ns:List Nat} (h:Nums w v ns) (hs:w.heap.size≤w'.heap.size) (hq:∀ b x,b<w.heap.size→w.cell? ⟨b,0,none⟩=some (.int .i64 x)→w'.heap[b]?=w.heap[b]?):Nums w' v ns:=by
 rcases h with h | ⟨b,cap,h1,h2,h3,h4,h5,h6⟩
 ·exact Or.inl h
 ·refine Or.inr ⟨b,cap,h1,Nat.lt_of_lt_of_le h2 hs,h3,h4,h5,fun j hj=>?_⟩
  have hb:=hq b _ h2 (h6 0 h3)
  exact (World.cell?_of_block (a:=⟨b,j,none⟩) hb).trans (h6 j hj)
theorem ofNat_zero_iff {er:Nat} (h:er<256):(UInt8.ofNat er == 0)=decide (er=0):=by
 by_cases h0:er=0
 ·subst h0;rfl
 ·rw [decide_eq_false h0,beq_eq_false_iff_ne];exact ofNat_ne0 h0 (by omega)
set_option maxHeartbeats 1600000 in
theorem ldo_bad {lg:List UInt8} {rcs:List (Nat × Nat)} {Z:Nat→Prop} {w:World} {Lb td:Nat} {ls:List L} {os:List O} (h:PL lg os rcs Z w Lb td ls) (hg:Gl w) (s:ByteArray) (hs:s.size≤2097152) (hform:formOf s.data.toList=none) :
  Calls Tryz.prog 23 #[.pointer (some ⟨Lb,0,none⟩),.string s] w (LdoP lg s Z w Lb ([1],td,os,rcs,ls)):=by
 have HR:Hid (Calls Tryz.prog 34 #[.string s] w fun e w'=>e=.returned (.tuple #[.nilIface,.bool false])∧Below w.heap.size w w') :=
  (read_any s hs w hg).mono fun e w' ⟨h1,h2⟩=>by rw [hform] at h2;exact ⟨h2,h1⟩
 have HE:Hid (lgX lg s [1]=lg):=by unfold Hid lgX logsB;rw [if_neg];simp
 go_enter Tryz.func23,Tryz.ntmps23
 go_wp2_with (go_at_call 34;refine (HR.out).mono ?_;rintro e w1 ⟨rfl,hb1⟩)
 go_ret2
 exact ⟨⟨_,[],1,rfl,by omega,Nums.nil _,rfl⟩,kpB hb1,by show PL (lgX lg s [1]) _ _ _ _ _ _ _;rw [HE.out];exact (h.below hb1).mono (fun _ hk=>Or.inl hk)⟩
set_option maxHeartbeats 1600000 in
theorem ldo_num {lg:List UInt8} {rcs:List (Nat × Nat)} {Z:Nat→Prop} {w:World} {Lb td:Nat} {ls:List L} {os:List O} (h:PL lg os rcs Z w Lb td ls) (hg:Gl w) (s:ByteArray) (hs:s.size≤2097152) (c:Nat) (ns:List Nat) (hform:formOf s.data.toList=some (c,ns)) (hm:Pl.mays (Pl.kindsL c) ns=false) :
  Calls Tryz.prog 23 #[.pointer (some ⟨Lb,0,none⟩),.string s] w (LdoP lg s Z w Lb ([2],td,os,rcs,ls)):=by
 obtain ⟨hc1,hc2,hlen,hlt⟩:=form_facts hform
 have HR:Hid (Calls Tryz.prog 34 #[.string s] w fun e w'=>e=.returned (.tuple #[.iface (tyOf c) (.agg (I ns).toArray),.bool true])∧Below w.heap.size w w') :=
  (read_any s hs w hg).mono fun e w' ⟨h1,h2⟩=>by rw [hform] at h2;exact ⟨h2,h1⟩
 have HI:=hide (fun w=>inr_any c ns hc1 hc2 hlen hlt w)
 rw [hm] at HI
 have hmt:=meth_any c hc1 hc2
 have hent:=enter_any c hc1 hc2
 have HE:Hid (lgX lg s [2]=lg):=by unfold Hid lgX logsB;rw [if_neg];simp
 generalize tyOf c=tc at *
 generalize fmOf c=fm at *
 generalize (Value.agg (I ns).toArray)=ag at *
 clear hm hform hlen hlt
 go_enter Tryz.func23,Tryz.ntmps23
 go_wp2_with (go_at_call 34;refine (HR.out).mono ?_;rintro e w1 ⟨rfl,hb1⟩)
 refine (HI.out _).mono ?_
 rintro e w2 ⟨rfl,hb2⟩
 go_wp2_with fail
 go_ret2
 have hb12:=hb1.trans (hb2.mono hb1.size)
 exact ⟨⟨_,[],2,rfl,by omega,Nums.nil _,rfl⟩,kpB hb12,by show PL (lgX lg s [2]) _ _ _ _ _ _ _;rw [HE.out];exact (h.below hb12).mono (fun _ hk=>Or.inl hk)⟩
set_option maxHeartbeats 1600000 in
theorem ldo_ok {lg:List UInt8} {rcs:List (Nat × Nat)} {Z:Nat→Prop} {w:World} {Lb td:Nat} {ls:List L} {os:List O} (h:PL lg os rcs Z w Lb td ls) (hgo:Good os ls) (hg:Gl w) (s:ByteArray) (hs:s.size≤2097152) (hlg:(s.data.toList.getD 0 0).toNat≤10→lg.length≤35184372088832) (c:Nat) (ns:List Nat) (hform:formOf s.data.toList=some (c,ns)) (hm:Pl.mays (Pl.kindsL c) ns=true) (hcf:Pl.cmd s.data.toList=.ok (c,ns)) :
  Calls Tryz.prog 23 #[.pointer (some ⟨Lb,0,none⟩),.string s] w (LdoP lg s Z w Lb (stepR rcs td os ls (.ok (c,ns)))):=by
 obtain ⟨hc1,hc2,hlen,hlt⟩:=form_facts hform
 have HR:Hid (Calls Tryz.prog 34 #[.string s] w fun e w'=>e=.returned (.tuple #[.iface (tyOf c) (.agg (I ns).toArray),.bool true])∧Below w.heap.size w w') :=
  (read_any s hs w hg).mono fun e w' ⟨h1,h2⟩=>by rw [hform] at h2;exact ⟨h2,h1⟩
 have HI:=hide (fun w=>inr_any c ns hc1 hc2 hlen hlt w)
 rw [hm] at HI
 have hmt:=meth_any c hc1 hc2
 have hent:=enter_any c hc1 hc2
 have HLG:=hide (fun v w=>logged_any c hc1 hc2 v w)
 have HDO:=hide (fun (w2:World) (S:Nat) (Zs:Nat→Prop) (hpi:PI os rcs Zs w2 S td ls)=>doR_any hpi hgo c ns hc1 hc2 hlen hm)
 have HCC:=hide (cmd_code hcf)
 have HLM:Hid (c≤10→lg.length≤35184372088832):=fun h=>hlg (by rw [HCC.out];exact h)
 clear hlg
 obtain ⟨S,Zs,lv,hps⟩:=h.ps
 generalize stepR rcs td os ls (.ok (c,ns))=r at HDO ⊢
 generalize tyOf c=tc at *
 generalize fmOf c=fm at *
 generalize (Value.agg (I ns).toArray)=ag at *
 have HPS:=hide hps
 clear hm hform hlen hlt hgo h hcf hps
 go_enter Tryz.func23,Tryz.ntmps23
 go_wp2_with (go_at_call 34;refine (HR.out).mono ?_;rintro e w1 ⟨rfl,hb1⟩)
 refine (HI.out _).mono ?_
 rintro e w2 ⟨rfl,hb2⟩
 have hb12:=hb1.trans (hb2.mono hb1.size)
 have hL2:=(hb12.block Lb (blk_lt HPS.out.here)).trans HPS.out.here
 have hc2:w2.cell? ⟨Lb,0,none⟩=some (.pointer (some ⟨S,0,none⟩)):=by rw [blk_cell hL2];rfl
 have HD:=hide (HDO.out w2 S Zs (HPS.out.pi.below hb12))
 have HB12:=hide hb12
 clear HDO hb1 hb2 hb12 hL2
 go_wp2_with fail
 refine (HD.out).mono ?_
 rintro e w3 ⟨hk3,hpi3,vn,ms,er,rfl,her,hnum,hrep⟩
 have hst:=HPS.out.step HB12.out hk3 hpi3 (Below.refl _ _)
 have HST:=hide hst
 have hL3:=hst.2.here
 have c31:w3.cell? ⟨Lb,1,none⟩=some lv:=by rw [blk_cell hL3];rfl
 have HREP:=hide hrep
 have HNUM:=hide hnum
 have HLX:Hid (lgX lg s r.1=if er=0∧c≤10 then lg++frmB s.data.toList else lg):=by
  unfold Hid lgX logsB
  rw [HREP.out,HCC.out]
  simp only [List.getD_cons_zero,ofNat_zero_iff her]
  by_cases h0:er=0 <;> by_cases h1:c≤10 <;> simp [h0,h1]
 clear hst hL3 hrep hnum hk3 hpi3 HD HI HR
 by_cases h0:er=0
 ·subst h0
  by_cases h10:c≤10
  ·have HLG2:=hide (fun w=>HLG.out ag w)
   simp only [decide_eq_true h10] at HLG2
   have HFA:=hide (fappend_any 0 lv lg s (by omega) (HLM.out h10) w3 (Nat.zero_le _) HST.out.2.log.1)
   rw [if_pos ⟨rfl,h10⟩] at HLX
   have hfpos:0<(lg++frmB s.data.toList).length:=by have:=List.length_pos_iff.2 (frmB_ne s.data.toList);rw [List.length_append];omega
   clear HLG
   go_wp2_with (first
    | (go_at_call 36;refine (HLG2.out _).mono ?_;rintro e w4 ⟨rfl,rfl⟩)
    | (go_at_call 30;refine (HFA.out).mono ?_;rintro e w5 ⟨v5,rfl,ho5,hg5,hl5⟩;obtain ⟨g5,cap5,hv5,_,_⟩:=own_some ho5 hfpos;subst hv5;have hL5:=(hg5.block Lb (blk_lt HST.out.2.here) (fun e=>(HST.out.2.blk Lb e.symm).2.1 rfl)).trans HST.out.2.here;have c51:w5.cell? ⟨Lb,1,none⟩=some lv:=(by rw [blk_cell hL5];rfl);have f51:=blk_free hL5 1))
   obtain ⟨v5,HV5⟩:∃ v5,Hid (v5=Value.slice (some ⟨g5,0,none⟩) (lg.length+(frmB s.data.toList).length) cap5):=⟨_,rfl⟩
   have hla:(lg++frmB s.data.toList).length=lg.length+(frmB s.data.toList).length:=List.length_append
   rw [← hla] at HV5
   rw [← HV5.out] at ho5 hl5
   rw [hla] at HV5
   rw [← HV5.out]
   have hfr:=HST.out.2.bnd.frame (frmB_ne s.data.toList) ho5 hg5 hl5 (fun k hk=>hk.2)
   have HK6:Hid (Kp Z w (w5.setCell ⟨Lb,1,none⟩ v5)):=HST.out.1.trans hfr.1
   have hs3:=HST.out.1.size
   have HPL6:Hid (PL (lg++frmB s.data.toList) r.2.2.1 r.2.2.2.1 (Zn Z w) (w5.setCell ⟨Lb,1,none⟩ v5) Lb r.2.1 r.2.2.2.2):=hfr.2.pl.mono (fun k hk=>hk.elim id (fun q=>Or.inr (Nat.le_trans hs3 q)))
   have HNM6:Hid (Nums (w5.setCell ⟨Lb,1,none⟩ v5) vn ms):=HNUM.out.away (by simp [World.setCell];exact hg5.size) (fun b x hb hc=>by
    have hbL:b≠Lb:=fun e=>by
     subst e
     rw [blk_cell HST.out.2.here] at hc
     cases hc
    rw [Below.heap_setCell _ _ _ _ hbL]
    refine hg5.block b hb (fun e=>?_)
    obtain ⟨y,hy⟩:=HST.out.2.log.byte e.symm
    rw [hy] at hc
    cases hc)
   clear hfr ho5 hg5 hl5 c51 f51 hL5
   go_ret2
   exact ⟨⟨_,ms,0,rfl,by omega,HNM6.out,HREP.out⟩,HK6.out,by rw [HLX.out];exact HPL6.out⟩
  ·have HLG2:=hide (fun w=>HLG.out ag w)
   simp only [decide_eq_false h10] at HLG2
   rw [if_neg (fun q=>h10 q.2)] at HLX
   clear HLG
   go_wp2_with (go_at_call 36;refine (HLG2.out _).mono ?_;rintro e w4 ⟨rfl,rfl⟩)
   go_ret2
   exact ⟨⟨_,ms,0,rfl,by omega,HNUM.out,HREP.out⟩,HST.out.1,by rw [HLX.out];exact HST.out.2.pl⟩
 ·have hbe:((er:Int) == 0)=false:=by rw [beq_eq_false_iff_ne];omega
  rw [if_neg (fun q=>h0 q.1)] at HLX
  clear HLG h0
  go_wp2_with fail
  go_ret2
  exact ⟨⟨_,ms,er,rfl,by omega,HNUM.out,HREP.out⟩,HST.out.1,by rw [HLX.out];exact HST.out.2.pl⟩
theorem ldo_any {lg:List UInt8} {rcs:List (Nat × Nat)} {Z:Nat→Prop} {w:World} {Lb td:Nat} {ls:List L} {os:List O} (h:PL lg os rcs Z w Lb td ls) (hgo:Good os ls) (hg:Gl w) (s:ByteArray) (hs:s.size≤2097152) (hlg:(s.data.toList.getD 0 0).toNat≤10→lg.length≤35184372088832) :
  Calls Tryz.prog 23 #[.pointer (some ⟨Lb,0,none⟩),.string s] w (LdoP lg s Z w Lb (stepR rcs td os ls (Pl.cmd s.data.toList))):=by
 have hcf:=cmd_form s.data.toList
 cases hform:formOf s.data.toList with
 | none =>
  rw [hform] at hcf
  rw [hcf]
  exact ldo_bad h hg s hs hform
 | some p =>
  obtain ⟨c,ns⟩:=p
  rw [hform] at hcf
  cases hm:Pl.mays (Pl.kindsL c) ns with
  | false =>
   simp only [hm,Bool.false_eq_true,if_false] at hcf
   rw [hcf]
   exact ldo_num h hg s hs c ns hform hm
  | true =>
   simp only [hm,if_true] at hcf
   rw [hcf]
   exact ldo_ok h hgo hg s hs hlg c ns hform hm hcf
set_option maxHeartbeats 800000 in
theorem handlePR_any {lg:List UInt8} {rcs:List (Nat × Nat)} {Z:Nat→Prop} {w:World} {Lb td:Nat} {ls:List L} {os:List O} (h:PL lg os rcs Z w Lb td ls) (hgo:Good os ls) (hg:Gl w) (s:ByteArray) (hs:s.size≤2097152) (hlg:(s.data.toList.getD 0 0).toNat≤10→lg.length≤35184372088832) :
  Calls Tryz.prog 10 #[.pointer (some ⟨Lb,0,none⟩),.string s] w fun e w'=>Kp Z w w'∧e=.returned (.string ⟨(stepR rcs td os ls (Pl.cmd s.data.toList)).1.toArray⟩)∧PL (lgX lg s (stepR rcs td os ls (Pl.cmd s.data.toList)).1) (stepR rcs td os ls (Pl.cmd s.data.toList)).2.2.1 (stepR rcs td os ls (Pl.cmd s.data.toList)).2.2.2.1 (Zn Z w) w' Lb (stepR rcs td os ls (Pl.cmd s.data.toList)).2.1 (stepR rcs td os ls (Pl.cmd s.data.toList)).2.2.2.2:=by
 have HA:=hide (ldo_any h hgo hg s hs hlg)
 generalize stepR rcs td os ls (Pl.cmd s.data.toList)=st at HA ⊢
 clear h hgo hlg
 go_enter Tryz.func10,Tryz.ntmps10
 go_wp2_with (go_at_call 23;refine (HA.out).mono ?_;rintro e w1 ⟨⟨vn,ms,er,rfl,her,hnum,hrep⟩,hk,hpl⟩)
 have HJ:=hide (join_any hnum er her)
 have HREP:=hide hrep
 have hm:(er:Int) % 256=(er:Int):=by omega
 clear hnum hrep
 refine (HJ.out).mono ?_
 rintro e w2 ⟨rfl,hb2⟩
 go_wp2_with fail
 go_ret
 exact ⟨hk.after hb2,by rw [HREP.out];rfl,hpl.below hb2⟩
end Go.Proofs.YtgcedalggnmooabGreatDoor
namespace Go.Proofs.YtgcedalggnmooabGreatDoor
open Go.RowKit
theorem convNil (w:World):(convert 51 9 (.slice none 0 0)).run Tryz.prog w=.ok (.string ⟨#[]⟩) w:=by kernel_rfl
set_option maxHeartbeats 800000 in
theorem log_any {lg:List UInt8} {rcs:List (Nat × Nat)} {Z:Nat→Prop} {w:World} {Lb td:Nat} {ls:List L} {os:List O} (h:PL lg os rcs Z w Lb td ls) :
  Calls Tryz.prog 9 #[.pointer (some ⟨Lb,0,none⟩)] w fun e w'=>e=.returned (.string ⟨lg.toArray⟩)∧w'=w:=by
 obtain ⟨S,Zs,lv,hps⟩:=h.ps
 have c1:w.cell? ⟨Lb,1,none⟩=some lv:=by rw [blk_cell hps.here];rfl
 have hlog:=hps.log
 clear h hps
 cases lg with
 | nil =>
  obtain rfl:=hlog.2 rfl
  have hcn:=convNil
  clear hlog
  go_enter Tryz.func9,Tryz.ntmps9
  go_wp2_with fail
  go_ret
  exact ⟨rfl,rfl⟩
 | cons b r =>
  have ho:=hlog.1
  clear hlog
  generalize hl:b :: r=l at *
  have hpos:0<l.length:=by rw [← hl];simp
  clear hl
  obtain ⟨g,cap,hv,_,_⟩:=own_some ho hpos
  subst hv
  have hcv:=conv_row w _ g _ cap _ rfl ho
  clear ho
  go_enter Tryz.func9,Tryz.ntmps9
  go_wp2_with fail
  go_ret
  exact ⟨rfl,rfl⟩
end Go.Proofs.YtgcedalggnmooabGreatDoor
