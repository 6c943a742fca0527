import Derived.Test.YtgcedalggnmooabGreatDoorR0X
import Derived.Test.YtgcedalggnmooabGreatDoorAsrtX
import Derived.Test.YtgcedalggnmooabGreatDoorRepX
import Derived.Test.YtgcedalggnmooabGreatDoorRng
import Derived.Test.YtgcedalggnmooabGreatDoorWireAX
import Derived.Test.YtgcedalggnmooabGreatDoorMp0X
set_option linter.unusedSimpArgs false
set_option linter.unusedVariables false
set_option maxRecDepth 100000
namespace Go.Proofs.YtgcedalggnmooabGreatDoor
open Go.RowKit
theorem zn_alloc {Z:Nat→Prop} (w:World) (o:Obj):∀ k,Zn Z (w.alloc o) k→Zn Z w k:=fun k h=>h.elim Or.inl (fun h=>Or.inr (by simp at h;omega))
set_option maxHeartbeats 800000 in
theorem do_day {rcs:List (Nat × Nat)} {Z:Nat→Prop} {w:World} {S td:Nat} {ls:List L} {os:List O} (h:PI os rcs Z w S td ls) (d:Nat) (hd:d≤2147483647) :
  Calls Tryz.prog 35 #[.pointer (some ⟨S,0,none⟩),.iface 86 (.agg #[.int .i64 (d:Int)])] w fun e w'=>Kp Z w w' ∧
   ((d<td∧e=.returned (.tuple #[.slice none 0 0,.int .i64 3])∧PI os rcs (Zn Z w) w' S td ls)∨(td≤d∧e=.returned (.tuple #[.slice none 0 0,.int .i64 0])∧PI os rcs (Zn Z w) w' S d ls)):=by
 have ha:=al1 w (Obj.cells #[.int .i64 (d:Int)] 86)
 obtain ⟨M,v,bs,pvs,hP,hin⟩:=h
 have HD:=hide (day_any (Z:=Z) ⟨M,v,bs,pvs,hP.below ha,hin⟩ d hd)
 clear hP
 have t100:=as_Day_Day
 go_enter Tryz.func35,Tryz.ntmps35
 go_wp2_with fail
 refine (HD.out).mono ?_
 rintro e w1 ⟨hk,⟨hlt,rfl,hpi⟩ | ⟨hge,rfl,hpi⟩⟩
 all_goals
  go_wp2_with fail
  go_ret2
 ·exact ⟨Kp.before ha (hk.mono (fun k h=>Or.inl h)),Or.inl ⟨hlt,rfl,hpi.mono (zn_alloc w _)⟩⟩
 ·exact ⟨Kp.before ha (hk.mono (fun k h=>Or.inl h)),Or.inr ⟨hge,rfl,hpi.mono (zn_alloc w _)⟩⟩
set_option maxHeartbeats 800000 in
theorem do_receive {rcs:List (Nat × Nat)} {Z:Nat→Prop} {w:World} {S td:Nat} {ls:List L} {os:List O} (h:PI os rcs Z w S td ls) (lot goods count expiry:Nat) (h1:lot≤2147483647) (h2:goods≤2147483647) (h3:count≤2147483647) (h4:expiry≤2147483647) :
  Calls Tryz.prog 35 #[.pointer (some ⟨S,0,none⟩),.iface 89 (.agg #[.int .i64 (lot:Int),.int .i64 (goods:Int),.int .i64 (count:Int),.int .i64 (expiry:Int)])] w fun e w'=>Kp Z w w'∧e=.returned (.tuple #[.slice none 0 0,.int .i64 (roomC ls lot:Int)]) ∧
   PI os rcs (Zn Z w) w' S td (if roomC ls lot=0 then ls++[{ id:=lot,goods:=goods,expiry:=expiry,place:=ls.length+1,got:=count,free:=count,held:=0,shipped:=0,scrapped:=0,given:=0 }] else ls):=by
 have ha:=al1 w (Obj.cells #[.int .i64 (lot:Int),.int .i64 (goods:Int),.int .i64 (count:Int),.int .i64 (expiry:Int)] 89)
 obtain ⟨M,v,bs,pvs,hP,hin⟩:=h
 have HD:=hide (receive_any (Z:=Z) ⟨M,v,bs,pvs,hP.below ha,hin⟩ lot goods count expiry h1 h2 h3 h4)
 generalize (if roomC ls lot=0 then ls++[{ id:=lot,goods:=goods,expiry:=expiry,place:=ls.length+1,got:=count,free:=count,held:=0,shipped:=0,scrapped:=0,given:=0 }] else ls)=ls' at HD ⊢
 clear hP
 have t100:=as_Receive_Day
 have t103:=as_Receive_Receive
 go_enter Tryz.func35,Tryz.ntmps35
 go_wp2_with fail
 refine (HD.out).mono ?_
 rintro e w1 ⟨hk,rfl,hpi⟩
 go_wp2_with fail
 go_ret2
 exact ⟨Kp.before ha (hk.mono (fun k h=>Or.inl h)),rfl,hpi.mono (zn_alloc w _)⟩
set_option maxHeartbeats 800000 in
theorem do_look {rcs:List (Nat × Nat)} {w:World} {S:Nat} {M:Mx} {v:Value} {td:Nat} {bs:List Nat} {pvs:List Value} {ls:List L} {os:List O} (h:PV os rcs w S M v td bs pvs ls) (n:Nat) (hn:n≤2147483647) :
  Calls Tryz.prog 35 #[.pointer (some ⟨S,0,none⟩),.iface 114 (.agg #[.int .i64 (n:Int)])] w fun e w'=>Below w.heap.size w w' ∧
   ((idx n ls<ls.length∧∃ g,e=.returned (.tuple #[.slice (some ⟨g,0,none⟩) 10 10,.int .i64 0])∧w'.heap[g]?=some (.cells (I (lookL (recB rcs ls) (ls.getD (idx n ls) L0))).toArray 2 (0,0)))∨(¬ idx n ls<ls.length∧e=.returned (.tuple #[.slice none 0 0,.int .i64 4]))):=by
 have ha:=al1 w (Obj.cells #[.int .i64 (n:Int)] 114)
 have hP:=h.below ha
 clear h
 by_cases hi:idx n ls<ls.length
 ·have HD:=hide (look_hit hP n hn hi)
  clear hP
  have t100:=as_Look_Day
  have t103:=as_Look_Receive
  have t106:=as_Look_Split
  have t109:=as_Look_Merge
  have t_Order:=as_Look_Order
  have t_Cancel:=as_Look_Cancel
  have t_Ship:=as_Look_Ship
  have t_Recall:=as_Look_Recall
  have t_Release:=as_Look_Release
  have t112:=as_Look_Scrap
  have t115:=as_Look_Look
  go_enter Tryz.func35,Tryz.ntmps35
  go_wp2_with fail
  refine (HD.out).mono ?_
  rintro e w1 ⟨hb,g,rfl,hg⟩
  go_wp2_with fail
  go_ret2
  exact ⟨ha.trans (hb.mono ha.size),Or.inl ⟨hi,g,rfl,hg⟩⟩
 ·have HD:=hide (look_miss hP n hn hi)
  clear hP
  have t100:=as_Look_Day
  have t103:=as_Look_Receive
  have t106:=as_Look_Split
  have t109:=as_Look_Merge
  have t_Order:=as_Look_Order
  have t_Cancel:=as_Look_Cancel
  have t_Ship:=as_Look_Ship
  have t_Recall:=as_Look_Recall
  have t_Release:=as_Look_Release
  have t112:=as_Look_Scrap
  have t115:=as_Look_Look
  go_enter Tryz.func35,Tryz.ntmps35
  go_wp2_with fail
  refine (HD.out).mono ?_
  rintro e w1 ⟨hb,rfl⟩
  go_wp2_with fail
  go_ret2
  exact ⟨ha.trans (hb.mono ha.size),Or.inr ⟨hi,rfl⟩⟩
set_option maxHeartbeats 800000 in
theorem do_supply {rcs:List (Nat × Nat)} {w:World} {S:Nat} {M:Mx} {v:Value} {td:Nat} {bs:List Nat} {pvs:List Value} {ls:List L} {os:List O} (h:PV os rcs w S M v td bs pvs ls) (goods gate:Nat) (h1:goods≤2147483647) (h2:gate≤2147483647) :
  Calls Tryz.prog 35 #[.pointer (some ⟨S,0,none⟩),.iface 117 (.agg #[.int .i64 (goods:Int),.int .i64 (gate:Int)])] w fun e w'=>Below w.heap.size w w'∧∃ g,e=.returned (.tuple #[.slice (some ⟨g,0,none⟩) 2 2,.int .i64 0])∧w'.heap[g]?=some (.cells (I (supL rcs td goods gate ls)).toArray 2 (0,0)):=by
 have ha:=al1 w (Obj.cells #[.int .i64 (goods:Int),.int .i64 (gate:Int)] 117)
 have hP:=h.below ha
 clear h
 have HD:=hide (supply_any hP goods gate h1 h2)
 clear hP
 have t100:=as_Supply_Day
 have t103:=as_Supply_Receive
 have t106:=as_Supply_Split
 have t109:=as_Supply_Merge
 have t_Order:=as_Supply_Order
 have t_Cancel:=as_Supply_Cancel
 have t_Ship:=as_Supply_Ship
 have t_Recall:=as_Supply_Recall
 have t_Release:=as_Supply_Release
 have t112:=as_Supply_Scrap
 have t115:=as_Supply_Look
 have t118:=as_Supply_Supply
 go_enter Tryz.func35,Tryz.ntmps35
 go_wp2_with fail
 refine (HD.out).mono ?_
 rintro e w1 ⟨hb,g,rfl,hg⟩
 go_wp2_with fail
 go_ret2
 exact ⟨ha.trans (hb.mono ha.size),g,rfl,hg⟩
end Go.Proofs.YtgcedalggnmooabGreatDoor
namespace Go.Proofs.YtgcedalggnmooabGreatDoor
open Go.RowKit
theorem PI.below {rcs:List (Nat × Nat)} {Z:Nat→Prop} {w w':World} {S td:Nat} {ls:List L} {os:List O} (h:PI os rcs Z w S td ls) (hb:Below w.heap.size w w'):PI os rcs Z w' S td ls:=by
 obtain ⟨M,v,bs,pvs,h1,h2⟩:=h
 exact ⟨M,v,bs,pvs,h1.below hb,h2⟩
def newL (ls:List L) (id goods count expiry:Nat):L:={ id:=id,goods:=goods,expiry:=expiry,place:=ls.length+1,got:=count,free:=count,held:=0,shipped:=0,scrapped:=0,given:=0 }
def LogAt (w:World) (lv:Value) (lg:List UInt8):Prop:=w.ownsRow 0 5 1 lv lg.length (U8 lg)∧(lg=[]→lv=.slice none 0 0)
theorem LogAt.congr {w w':World} {lv:Value} {lg:List UInt8} (h:LogAt w lv lg) (hq:∀ k,lv.ownBlock=some k→w'.heap[k]?=w.heap[k]?):LogAt w' lv lg:=⟨own_congr h.1 hq,h.2⟩
theorem LogAt.lt {w:World} {lv:Value} {lg:List UInt8} (h:LogAt w lv lg) {k:Nat} (hk:lv.ownBlock=some k):k<w.heap.size:=(h.1.lt k hk).2
theorem LogAt.byte {w:World} {lv:Value} {lg:List UInt8} (h:LogAt w lv lg) {k:Nat} (hk:lv.ownBlock=some k):∃ x,w.cell? ⟨k,0,none⟩=some (.int .u8 x):=by
 cases lg with
 | nil=>rw [h.2 rfl] at hk;cases hk
 | cons b r =>
  obtain ⟨g,cap,rfl,_,_⟩:=own_some h.1 (by simp)
  cases hk
  have:=h.1.cellAt 0 (by simp)
  exact ⟨_,this.trans rfl⟩
def PL (lg:List UInt8) (os:List O) (rcs:List (Nat × Nat)) (Z:Nat→Prop) (w:World) (Lb td:Nat) (ls:List L):Prop :=
 ∃ S Zs lv,w.heap[Lb]?=some (.cells #[.pointer (some ⟨S,0,none⟩),lv] 53 (0,0))∧Z Lb∧¬ Zs Lb∧(∀ k,Zs k→Z k)∧PI os rcs Zs w S td ls∧LogAt w lv lg∧∀ k,lv.ownBlock=some k→Z k∧k≠Lb∧¬ Zs k
theorem PL.below {lg:List UInt8} {rcs:List (Nat × Nat)} {Z:Nat→Prop} {w w':World} {Lb td:Nat} {ls:List L} {os:List O} (h:PL lg os rcs Z w Lb td ls) (hb:Below w.heap.size w w'):PL lg os rcs Z w' Lb td ls:=by
 obtain ⟨S,Zs,lv,h1,h2,h3,h4,h5,h6,h7⟩:=h
 exact ⟨S,Zs,lv,(hb.block _ (blk_lt h1)).trans h1,h2,h3,h4,h5.below hb,h6.congr (fun k hk=>hb.block k (h6.lt hk)),h7⟩
theorem PL.mono {lg:List UInt8} {rcs:List (Nat × Nat)} {Z Z':Nat→Prop} {w:World} {Lb td:Nat} {ls:List L} {os:List O} (h:PL lg os rcs Z w Lb td ls) (hz:∀ k,Z k→Z' k):PL lg os rcs Z' w Lb td ls:=by
 obtain ⟨S,Zs,lv,h1,h2,h3,h4,h5,h6,h7⟩:=h
 exact ⟨S,Zs,lv,h1,hz _ h2,h3,fun k hk=>hz k (h4 k hk),h5,h6,fun k hk=>⟨hz k (h7 k hk).1,(h7 k hk).2⟩⟩
structure PS (lg:List UInt8) (os:List O) (rcs:List (Nat × Nat)) (Z:Nat→Prop) (w:World) (Lb td:Nat) (ls:List L) (S:Nat) (Zs:Nat→Prop) (lv:Value):Prop where
 here:w.heap[Lb]?=some (.cells #[.pointer (some ⟨S,0,none⟩),lv] 53 (0,0))
 inZ:Z Lb
 out:¬ Zs Lb
 sub:∀ k,Zs k→Z k
 pi:PI os rcs Zs w S td ls
 log:LogAt w lv lg
 blk:∀ k,lv.ownBlock=some k→Z k∧k≠Lb∧¬ Zs k
theorem PS.pl {lg:List UInt8} {rcs:List (Nat × Nat)} {Z:Nat→Prop} {w:World} {Lb td:Nat} {ls:List L} {os:List O} {S:Nat} {Zs:Nat→Prop} {lv:Value} (h:PS lg os rcs Z w Lb td ls S Zs lv):PL lg os rcs Z w Lb td ls:=⟨S,Zs,lv,h.here,h.inZ,h.out,h.sub,h.pi,h.log,h.blk⟩
theorem PL.ps {lg:List UInt8} {rcs:List (Nat × Nat)} {Z:Nat→Prop} {w:World} {Lb td:Nat} {ls:List L} {os:List O} (h:PL lg os rcs Z w Lb td ls):∃ S Zs lv,PS lg os rcs Z w Lb td ls S Zs lv:=by
 obtain ⟨S,Zs,lv,h1,h2,h3,h4,h5,h6,h7⟩:=h
 exact ⟨S,Zs,lv,h1,h2,h3,h4,h5,h6,h7⟩
theorem PS.step {lg:List UInt8} {rcs rcs':List (Nat × Nat)} {Z Zs:Nat→Prop} {w w2 w3 w4:World} {Lb td td' S:Nat} {ls ls':List L} {os os':List O} {lv:Value} (h:PS lg os rcs Z w Lb td ls S Zs lv)
  (hb2:Below w.heap.size w w2) (hk:Kp Zs w2 w3) (hpi:PI os' rcs' (Zn Zs w2) w3 S td' ls') (hb4:Below w3.heap.size w3 w4):Kp Z w w4∧PS lg os' rcs' (Zn Z w) w4 Lb td' ls' S (Zn Zs w2) lv:=by
 refine ⟨(Kp.before hb2 (hk.mono (fun k q=>Or.inl (h.sub k q)))).after hb4,?_⟩
 have hlt:=blk_lt h.here
 have h2:=(hb2.block Lb hlt).trans h.here
 have h3:=(hk.block Lb (blk_lt h2) h.out).trans h2
 have h4:=(hb4.block Lb (blk_lt h3)).trans h3
 have hs2:=hb2.size
 have hs3:=hk.size
 refine ⟨h4,Or.inl h.inZ,fun q=>q.elim h.out (fun q=>by omega),fun k q=>q.elim (fun q=>Or.inl (h.sub k q)) (fun q=>Or.inr (Nat.le_trans hs2 q)),hpi.below hb4,h.log.congr (fun k hk'=>?_),fun k hk'=>⟨Or.inl (h.blk k hk').1,(h.blk k hk').2.1,fun q=>q.elim (h.blk k hk').2.2 (fun q=>by have:=h.log.lt hk';omega)⟩⟩
 have q0:=h.log.lt hk'
 have q2:=hb2.block k q0
 have q3:=hk.block k (by omega) (h.blk k hk').2.2
 have q4:=hb4.block k (by omega)
 exact q4.trans (q3.trans q2)
theorem PS.frame {lg f:List UInt8} {rcs:List (Nat × Nat)} {Z Zs:Nat→Prop} {w w5:World} {Lb td S:Nat} {ls:List L} {os:List O} {lv lv':Value} (h:PS lg os rcs Z w Lb td ls S Zs lv) (hf:f≠[])
  (ho:w5.ownsRow 0 5 1 lv' (lg++f).length (U8 (lg++f))) (hg:w.grownBy w5 lv.ownBlock) (hl:Lies w lv lv') (hzs:∀ k,Zs k→k<w.heap.size) :
  Kp Z w (w5.setCell ⟨Lb,1,none⟩ lv')∧PS (lg++f) os rcs (Zn Z w) (w5.setCell ⟨Lb,1,none⟩ lv') Lb td ls S Zs lv':=by
 have hlt:=blk_lt h.here
 have hne:∀ k,Zs k→w5.heap[k]?=w.heap[k]?:=fun k hk=>hg.block k (hzs k hk) (fun e=>(h.blk k e.symm).2.2 hk)
 have hL5:=(hg.block Lb hlt (fun e=>(h.blk Lb e.symm).2.1 rfl)).trans h.here
 have hself:=heap_setCell_same w5 Lb 1 _ 53 lv' hL5
 have hoth:∀ k,k≠Lb→(w5.setCell ⟨Lb,1,none⟩ lv').heap[k]?=w5.heap[k]?:=fun k hk=>Below.heap_setCell _ _ _ _ hk
 have hsz:(w5.setCell ⟨Lb,1,none⟩ lv').heap.size=w5.heap.size:=by simp [World.setCell]
 have hlv':∀ k,lv'.ownBlock=some k→(Z k∧k≠Lb∧¬ Zs k)∨w.heap.size≤k:=fun k hk=>(hl k hk).elim (fun q=>Or.inl (h.blk k q)) Or.inr
 refine ⟨⟨hg.os,hg.tape,hg.output,by rw [hsz];exact hg.size,fun k hk hz=>?_⟩,⟨hself,Or.inl h.inZ,h.out,fun k hk=>Or.inl (h.sub k hk),?_,⟨own_congr ho (fun k hk=>hoth k (fun e=>?_)),fun e=>absurd e (by simp [hf])⟩,fun k hk=>?_⟩⟩
 ·have hzl:k≠Lb:=fun e=>hz (e ▸ h.inZ)
  rw [hoth k hzl]
  exact hg.block k hk (fun e=>hz (h.blk k e.symm).1)
 ·obtain ⟨M,v,bs,pvs,hP,hin⟩:=h.pi
  exact ⟨M,v,bs,pvs,hP.congr hin (fun k hk=>(hoth k (fun e=>h.out (e ▸ hk))).trans (hne k hk)),hin⟩
 ·rcases hlv' k hk with q | q
  ·exact q.2.1 e
  ·omega
 ·rcases hlv' k hk with q | q
  ·exact ⟨Or.inl q.1,q.2⟩
  ·exact ⟨Or.inr q,by omega,fun z=>by have:=hzs k z;omega⟩
end Go.Proofs.YtgcedalggnmooabGreatDoor
namespace Go.Proofs.YtgcedalggnmooabGreatDoor
open Go.RowKit
def stepS (rcs:List (Nat × Nat)) (td:Nat) (ls:List L):Pl.Cmd→List UInt8 × Nat × List L
 | .error e=>([UInt8.ofNat e],td,ls)
 | .ok (1,[d])=>if d<td then ([3],td,ls) else ([0],d,ls)
 | .ok (2,[a,b,c,d])=>([UInt8.ofNat (roomC ls a)],td,if roomC ls a=0 then ls++[newL ls a b c d] else ls)
 | .ok (11,[n])=>if idx n ls<ls.length then (0 :: Pl.toldB (lookL (recB rcs ls) (ls.getD (idx n ls) L0)),td,ls) else ([4],td,ls)
 | .ok (12,[a,b])=>(0 :: Pl.toldB (supL rcs td a b ls),td,ls)
 | _=>([],td,ls)
theorem cmd_form (l:List UInt8):Pl.cmd l=match formOf l with
  | none=>.error 1
  | some (c,ns)=>if Pl.mays (Pl.kindsL c) ns then .ok (c,ns) else .error 2:=by
 cases l with
 | nil=>rfl
 | cons c r =>
  simp only [Pl.cmd,formOf]
  cases hn:Pl.nums r with
  | none=>by_cases hk:Pl.kindsL c.toNat=[] <;> simp [hk]
  | some ns =>
   by_cases hk:Pl.kindsL c.toNat=[]
   ·simp [hk]
   ·by_cases hl:ns.length=(Pl.kindsL c.toNat).length
    ·simp [hk,hl]
    ·simp [hk,hl]
theorem form_facts {l:List UInt8} {c:Nat} {ns:List Nat} (h:formOf l=some (c,ns)):1≤c∧c≤12∧ns.length=(Pl.kindsL c).length∧∀ n ∈ ns,n<9223372036854775808:=by
 cases l with
 | nil=>cases h
 | cons b r =>
  simp only [formOf] at h
  by_cases hk:Pl.kindsL b.toNat=[]
  ·simp [hk] at h
  ·simp only [hk,if_false] at h
   cases hn:Pl.nums r with
   | none=>rw [hn] at h;cases h
   | some ms =>
    rw [hn] at h
    by_cases hl:ms.length=(Pl.kindsL b.toNat).length
    ·simp only [hl,if_true,Option.some.injEq,Prod.mk.injEq] at h
     obtain ⟨rfl,rfl⟩:=h
     have hb:1≤b.toNat∧b.toNat≤12:=by
      apply Decidable.byContradiction
      intro hc
      apply hk
      unfold Pl.kindsL
      split <;> first | rfl | omega
     exact ⟨hb.1,hb.2,hl,Pl.nums_lt _ r _ (Nat.le_refl _) hn⟩
    ·simp [hl] at h
theorem len1 {ns:List Nat} (h:ns.length=1):∃ a,ns=[a]:=List.length_eq_one_iff.1 h
theorem len2 {ns:List Nat} (h:ns.length=2):∃ a b,ns=[a,b]:=by
 match ns,h with
 | [a,b],_=>exact ⟨a,b,rfl⟩
theorem len3 {ns:List Nat} (h:ns.length=3):∃ a b c,ns=[a,b,c]:=by
 match ns,h with
 | [a,b,c],_=>exact ⟨a,b,c,rfl⟩
theorem len4 {ns:List Nat} (h:ns.length=4):∃ a b c d,ns=[a,b,c,d]:=by
 match ns,h with
 | [a,b,c,d],_=>exact ⟨a,b,c,d,rfl⟩
theorem len5 {ns:List Nat} (h:ns.length=5):∃ a b c d e,ns=[a,b,c,d,e]:=by
 match ns,h with
 | [a,b,c,d,e],_=>exact ⟨a,b,c,d,e,rfl⟩
theorem PV.bound {rcs:List (Nat × Nat)} {w:World} {S:Nat} {M:Mx} {v:Value} {td:Nat} {bs:List Nat} {pvs:List Value} {ls:List L} {os:List O} {Z:Nat→Prop} (h:PV os rcs w S M v td bs pvs ls) (hi:PIn Z S M v bs pvs):PIn (fun k=>Z k∧k<w.heap.size) S M v bs pvs := {
 s:=⟨hi.s,blk_lt h.store⟩
 m:=by obtain ⟨_,_,hc⟩:=h.maps.mr;exact ⟨hi.m,blk_lt hc⟩
 mo:=by obtain ⟨_,_,hc⟩:=h.maps.mo;exact ⟨hi.mo,blk_lt hc⟩
 mh:=by obtain ⟨_,_,hc⟩:=h.maps.mh;exact ⟨hi.mh,blk_lt hc⟩
 v:=fun g hg=>by obtain ⟨cs,hc⟩:=own_ty h.row hg;exact ⟨hi.v g hg,blk_lt hc⟩
 b:=fun k hk=>by
  refine ⟨hi.b k hk,?_⟩
  obtain ⟨i,hil,rfl⟩:=List.getElem_of_mem hk
  have:=blk_lt (h.lot i (by rw [← h.len];exact hil))
  rw [List.getD_eq_getElem?_getD,List.getElem?_eq_getElem hil] at this
  simpa using this
 p:=fun pv hp q hq=>by
  refine ⟨hi.p pv hp q hq,?_⟩
  obtain ⟨i,hil,rfl⟩:=List.getElem_of_mem hp
  have hpar:=h.par i (by rw [← h.plen];exact hil)
  rw [List.getD_eq_getElem?_getD,List.getElem?_eq_getElem hil] at hpar
  simp only [Option.getD_some] at hpar
  obtain ⟨cs,h3⟩:=hpar.blk hq
  exact blk_lt h3 }
theorem PL.bound {lg:List UInt8} {rcs:List (Nat × Nat)} {Z:Nat→Prop} {w:World} {Lb td:Nat} {ls:List L} {os:List O} (h:PL lg os rcs Z w Lb td ls):PL lg os rcs (fun k=>Z k∧k<w.heap.size) w Lb td ls:=by
 obtain ⟨S,Zs,lv,h1,h2,h3,h4,⟨M,v,bs,pvs,h5,h6⟩,h7,h8⟩:=h
 exact ⟨S,fun k=>Zs k∧k<w.heap.size,lv,h1,⟨h2,blk_lt h1⟩,fun h=>h3 h.1,fun k hk=>⟨h4 k hk.1,hk.2⟩,⟨M,v,bs,pvs,h5,h5.bound h6⟩,h7,fun k hk=>⟨⟨(h8 k hk).1,h7.lt hk⟩,(h8 k hk).2.1,fun q=>(h8 k hk).2.2 q.1⟩⟩
theorem PL.congr {lg:List UInt8} {rcs:List (Nat × Nat)} {Z:Nat→Prop} {w w':World} {Lb td:Nat} {ls:List L} {os:List O} (h:PL lg os rcs Z w Lb td ls) (hq:∀ k,Z k→w'.heap[k]?=w.heap[k]?):PL lg os rcs Z w' Lb td ls:=by
 obtain ⟨S,Zs,lv,h1,h2,h3,h4,⟨M,v,bs,pvs,h5,h6⟩,h7,h8⟩:=h
 exact ⟨S,Zs,lv,(hq Lb h2).trans h1,h2,h3,h4,⟨M,v,bs,pvs,h5.congr h6 (fun k hk=>hq k (h4 k hk)),h6⟩,h7.congr (fun k hk=>hq k (h8 k hk).1),h8⟩
theorem Gl.kp {Z:Nat→Prop} {w w':World} (h:Gl w) (k:Kp Z w w') (h0:¬ Z 2) (h1:¬ Z 3):Gl w':=by
 obtain ⟨⟨t0,v0,q0⟩,⟨t1,v1,q1⟩,q2⟩:=h
 exact ⟨⟨t0,v0,(World.cell?_of_block (a:=⟨2,0,none⟩) (k.block 2 (by omega) h0)).trans q0⟩,⟨t1,v1,(World.cell?_of_block (a:=⟨3,0,none⟩) (k.block 3 (by omega) h1)).trans q1⟩,Nat.le_trans q2 k.size⟩
theorem good_stepS {rcs:List (Nat × Nat)} {os:List O} {td:Nat} {ls:List L} (h:Good os ls) (c:Pl.Cmd):Good os (stepS rcs td ls c).2.2:=by
 cases c with
 | error e=>exact h
 | ok p =>
  obtain ⟨n,ns⟩:=p
  unfold stepS
  split
  ·exact h
  ·split <;> exact h
  ·rename_i a b c d heq
   show Good os (if roomC ls a=0 then ls++[newL ls a b c d] else ls)
   by_cases hr:roomC ls a=0
   ·rw [if_pos hr];exact h.snoc (room_fresh hr) rfl rfl
   ·rw [if_neg hr];exact h
  ·split <;> exact h
  ·exact h
  ·exact h
theorem alloc_old {w:World} {k:Nat} {o':Obj} {x:Option Obj} (h:w.heap[k]?=x) (hk:k<w.heap.size):(w.alloc o').heap[k]?=x:=(Below.heap_alloc _ _ _ hk).trans h
end Go.Proofs.YtgcedalggnmooabGreatDoor
