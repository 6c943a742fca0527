import Derived.Test.YtgcedalggnmooabGreatDoorSt12X
import Derived.Test.YtgcedalggnmooabGreatDoorDo1X
set_option linter.unusedSimpArgs false
set_option linter.unusedVariables false
set_option maxRecDepth 100000
namespace Go.Proofs.YtgcedalggnmooabGreatDoor
open Go.RowKit
theorem merge_any {rcs:List (Nat × Nat)} {Z:Nat→Prop} {w:World} {S td:Nat} {ls:List L} {os:List O} (h:PI os rcs Z w S td ls) (a b m:Nat) (h1:a≤2147483647) (h2:b≤2147483647) (h3:m≤2147483647) :
  Calls Tryz.prog 50 #[.pointer (some ⟨S,0,none⟩),.agg #[.int .i64 (a:Int),.int .i64 (b:Int),.int .i64 (m:Int)]] w fun e w'=>Kp Z w w'∧e=.returned (.int .i64 (mergeC ls a b m:Int))∧PI os rcs (Zn Z w) w' S td (mergeS ls a b m):=by
 obtain ⟨M,v,bs,pvs,hP,hin⟩:=h
 have fin:∀ rc:Nat,0<rc→mergeC ls a b m=rc→(Calls Tryz.prog 50 #[.pointer (some ⟨S,0,none⟩),.agg #[.int .i64 (a:Int),.int .i64 (b:Int),.int .i64 (m:Int)]] w fun e w'=>e=.returned (.int .i64 (rc:Int))∧Below w.heap.size w w') →
   Calls Tryz.prog 50 #[.pointer (some ⟨S,0,none⟩),.agg #[.int .i64 (a:Int),.int .i64 (b:Int),.int .i64 (m:Int)]] w fun e w'=>Kp Z w w'∧e=.returned (.int .i64 (mergeC ls a b m:Int))∧PI os rcs (Zn Z w) w' S td (mergeS ls a b m):=by
  intro rc hrc hm hw
  have hS:mergeS ls a b m=ls:=if_neg (by omega)
  rw [hm,hS]
  exact hw.mono fun e w' ⟨he,hb⟩=>⟨kpB hb,he,M,v,bs,pvs,hP.below hb,hin.mono (fun k hk=>Or.inl hk)⟩
 by_cases hx:idx a ls<ls.length∧idx b ls<ls.length
 ·by_cases hy:idx a ls=idx b ls∨(lotAt ls a).goods≠(lotAt ls b).goods
  ·exact fin 8 (by omega) (by unfold mergeC;rw [if_pos hx,if_pos hy]) (merge_goods hP a b m h1 h2 h3 hx.1 hx.2 hy)
  ·have he:idx a ls≠idx b ls:=fun h=>hy (Or.inl h)
   have hg:(lotAt ls a).goods=(lotAt ls b).goods:=Classical.byContradiction fun h=>hy (Or.inr h)
   by_cases hr:roomC ls m=0
   ·by_cases hz:(lotAt ls a).free+(lotAt ls b).free=0
    ·exact fin 7 (by omega) (by unfold mergeC;rw [if_pos hx,if_neg hy,if_pos hr,if_pos hz]) (merge_late hP a b m h1 h2 h3 hx.1 hx.2 he hg 7 (by omega) (Or.inr (Or.inl ⟨hr,hz,rfl⟩)))
    ·by_cases hz2:2147483647<(lotAt ls a).free+(lotAt ls b).free
     ·exact fin 2 (by omega) (by unfold mergeC;rw [if_pos hx,if_neg hy,if_pos hr,if_neg hz,if_pos hz2]) (merge_late hP a b m h1 h2 h3 hx.1 hx.2 he hg 2 (by omega) (Or.inr (Or.inr ⟨hr,hz2,rfl⟩)))
     ·have hm:mergeC ls a b m=0:=by unfold mergeC;rw [if_pos hx,if_neg hy,if_pos hr,if_neg hz,if_neg hz2]
      have hS:mergeS ls a b m=_:=if_pos hm
      rw [hm,hS]
      by_cases hmm:(lotAt ls b).expiry<(lotAt ls a).expiry
      ·exact merge_yes1 hP hin a b m h1 h2 h3 hx.1 hx.2 he hg hr hz (by omega) hmm
      ·exact merge_yes2 hP hin a b m h1 h2 h3 hx.1 hx.2 he hg hr hz (by omega) hmm
   ·exact fin (roomC ls m) (by omega) (by unfold mergeC;rw [if_pos hx,if_neg hy,if_neg hr]) (merge_late hP a b m h1 h2 h3 hx.1 hx.2 he hg _ (by omega) (Or.inl ⟨hr,rfl⟩))
 ·exact fin 4 (by omega) (by unfold mergeC;rw [if_neg hx]) (merge_none hP a b m h1 h2 h3 hx)
end Go.Proofs.YtgcedalggnmooabGreatDoor
namespace Go.Proofs.YtgcedalggnmooabGreatDoor
open Go.RowKit
theorem scrapC_le (ls:List L) (n c:Nat):scrapC ls n c≤9:=by unfold scrapC;split <;> (try split) <;> omega
theorem splitC_le (ls:List L) (n m c:Nat):splitC ls n m c≤9:=by have:=roomC_le ls m;unfold splitC;split <;> (try split) <;> (try split) <;> omega
theorem mergeC_le (ls:List L) (a b m:Nat):mergeC ls a b m≤9:=by
 have:=roomC_le ls m
 unfold mergeC
 split
 ·split
  ·omega
  ·split
   ·split
    ·omega
    ·split <;> omega
   ·omega
 ·omega
set_option maxHeartbeats 800000 in
theorem do_split {rcs:List (Nat × Nat)} {Z:Nat→Prop} {w:World} {S td:Nat} {ls:List L} {os:List O} (h:PI os rcs Z w S td ls) (a b c:Nat) (h1:a≤2147483647) (h2:b≤2147483647) (h3:c≤2147483647) :
  Calls Tryz.prog 35 #[.pointer (some ⟨S,0,none⟩),.iface 92 (.agg #[.int .i64 (a:Int),.int .i64 (b:Int),.int .i64 (c:Int)])] w fun e w'=>Kp Z w w'∧e=.returned (.tuple #[.slice none 0 0,.int .i64 (splitC ls a b c:Int)])∧PI os rcs (Zn Z w) w' S td (splitS ls a b c):=by
 have hal:=al1 w (Obj.cells #[.int .i64 (a:Int),.int .i64 (b:Int),.int .i64 (c:Int)] 92)
 obtain ⟨M,v,bs,pvs,hP,hin⟩:=h
 have HD:=hide (split_any (Z:=Z) ⟨M,v,bs,pvs,hP.below hal,hin⟩ a b c h1 h2 h3)
 generalize splitS ls a b c=ls' at HD ⊢
 generalize splitC ls a b c=rc at HD ⊢
 clear hP
 have t100:=as_Split_Day
 have t103:=as_Split_Receive
 have t106:=as_Split_Split
 go_enter Tryz.func35,Tryz.ntmps35
 go_wp2_with fail
 refine (HD.out).mono ?_
 rintro e w1 ⟨hk,rfl,hpi⟩
 go_wp2_with fail
 go_ret2
 exact ⟨Kp.before hal (hk.mono (fun k h=>Or.inl h)),rfl,hpi.mono (zn_alloc w _)⟩
set_option maxHeartbeats 800000 in
theorem do_merge {rcs:List (Nat × Nat)} {Z:Nat→Prop} {w:World} {S td:Nat} {ls:List L} {os:List O} (h:PI os rcs Z w S td ls) (a b c:Nat) (h1:a≤2147483647) (h2:b≤2147483647) (h3:c≤2147483647) :
  Calls Tryz.prog 35 #[.pointer (some ⟨S,0,none⟩),.iface 95 (.agg #[.int .i64 (a:Int),.int .i64 (b:Int),.int .i64 (c:Int)])] w fun e w'=>Kp Z w w'∧e=.returned (.tuple #[.slice none 0 0,.int .i64 (mergeC ls a b c:Int)])∧PI os rcs (Zn Z w) w' S td (mergeS ls a b c):=by
 have hal:=al1 w (Obj.cells #[.int .i64 (a:Int),.int .i64 (b:Int),.int .i64 (c:Int)] 95)
 obtain ⟨M,v,bs,pvs,hP,hin⟩:=h
 have HD:=hide (merge_any (Z:=Z) ⟨M,v,bs,pvs,hP.below hal,hin⟩ a b c h1 h2 h3)
 generalize mergeS ls a b c=ls' at HD ⊢
 generalize mergeC ls a b c=rc at HD ⊢
 clear hP
 have t100:=as_Merge_Day
 have t103:=as_Merge_Receive
 have t106:=as_Merge_Split
 have t109:=as_Merge_Merge
 go_enter Tryz.func35,Tryz.ntmps35
 go_wp2_with fail
 refine (HD.out).mono ?_
 rintro e w1 ⟨hk,rfl,hpi⟩
 go_wp2_with fail
 go_ret2
 exact ⟨Kp.before hal (hk.mono (fun k h=>Or.inl h)),rfl,hpi.mono (zn_alloc w _)⟩
set_option maxHeartbeats 800000 in
theorem do_scrap {rcs:List (Nat × Nat)} {Z:Nat→Prop} {w:World} {S td:Nat} {ls:List L} {os:List O} (h:PI os rcs Z w S td ls) (a b:Nat) (h1:a≤2147483647) (h2:b≤2147483647) :
  Calls Tryz.prog 35 #[.pointer (some ⟨S,0,none⟩),.iface 111 (.agg #[.int .i64 (a:Int),.int .i64 (b:Int)])] w fun e w'=>Kp Z w w'∧e=.returned (.tuple #[.slice none 0 0,.int .i64 (scrapC ls a b:Int)])∧PI os rcs (Zn Z w) w' S td (scrapS ls a b):=by
 have hal:=al1 w (Obj.cells #[.int .i64 (a:Int),.int .i64 (b:Int)] 111)
 obtain ⟨M,v,bs,pvs,hP,hin⟩:=h
 have HD:=hide (scrap_any (Z:=Z) ⟨M,v,bs,pvs,hP.below hal,hin⟩ a b h1 h2)
 generalize scrapS ls a b=ls' at HD ⊢
 generalize scrapC ls a b=rc at HD ⊢
 clear hP
 have t100:=as_Scrap_Day
 have t103:=as_Scrap_Receive
 have t106:=as_Scrap_Split
 have t109:=as_Scrap_Merge
 have t_Order:=as_Scrap_Order
 have t_Cancel:=as_Scrap_Cancel
 have t_Ship:=as_Scrap_Ship
 have t_Recall:=as_Scrap_Recall
 have t_Release:=as_Scrap_Release
 have t112:=as_Scrap_Scrap
 go_enter Tryz.func35,Tryz.ntmps35
 go_wp2_with fail
 refine (HD.out).mono ?_
 rintro e w1 ⟨hk,rfl,hpi⟩
 go_wp2_with fail
 go_ret2
 exact ⟨Kp.before hal (hk.mono (fun k h=>Or.inl h)),rfl,hpi.mono (zn_alloc w _)⟩
end Go.Proofs.YtgcedalggnmooabGreatDoor
namespace Go.Proofs.YtgcedalggnmooabGreatDoor
open Go.RowKit
def stepT (rcs:List (Nat × Nat)) (td:Nat) (ls:List L):Pl.Cmd→List UInt8 × Nat × List L
 | .ok (3,[a,b,c])=>([UInt8.ofNat (splitC ls a b c)],td,splitS ls a b c)
 | .ok (4,[a,b,c])=>([UInt8.ofNat (mergeC ls a b c)],td,mergeS ls a b c)
 | .ok (10,[a,b])=>([UInt8.ofNat (scrapC ls a b)],td,scrapS ls a b)
 | c=>stepS rcs td ls c
def PlayedT (c:Pl.Cmd):Prop:=∀ n ns,c=.ok (n,ns)→n=1∨n=2∨n=11∨n=12∨n=3∨n=4∨n=10
theorem good_stepT {rcs:List (Nat × Nat)} {os:List O} {td:Nat} {ls:List L} (h:Good os ls) (c:Pl.Cmd):Good os (stepT rcs td ls c).2.2:=by
 have hset:∀ (ls:List L),Good os ls→∀ (i n:Nat),i<ls.length→Good os (ls.set i (gaveL (ls.getD i L0) n)):=fun ls h i n hi=>h.set hi rfl rfl rfl
 cases c with
 | error e=>exact h
 | ok p =>
  obtain ⟨n,ns⟩:=p
  unfold stepT
  split
  ·rename_i a b c heq
   show Good os (splitS ls a b c)
   unfold splitS
   by_cases hc:splitC ls a b c=0
   ·rw [if_pos hc]
    unfold splitC at hc
    by_cases hi:idx a ls<ls.length
    ·rw [if_pos hi] at hc
     by_cases hr:roomC ls b=0
     ·refine (hset ls h _ c hi).snoc ?_ (by simp [mkL]) rfl
      intro i hil
      rw [List.length_set] at hil
      have hf:=room_fresh hr i hil
      by_cases e:i=idx a ls
      ·subst e;rw [gset_eq hi];exact hf
      ·rw [gset_ne e];exact hf
     ·rw [if_neg hr] at hc;exact absurd hc hr
    ·rw [if_neg hi] at hc;omega
   ·rw [if_neg hc];exact h
  ·rename_i a b c heq
   show Good os (mergeS ls a b c)
   unfold mergeS
   by_cases hc:mergeC ls a b c=0
   ·rw [if_pos hc]
    unfold mergeC at hc
    by_cases hi:idx a ls<ls.length∧idx b ls<ls.length
    ·rw [if_pos hi] at hc
     by_cases he:idx a ls=idx b ls∨(lotAt ls a).goods≠(lotAt ls b).goods
     ·rw [if_pos he] at hc;omega
     ·rw [if_neg he] at hc
      have hne:idx b ls≠idx a ls:=fun e=>he (Or.inl e.symm)
      by_cases hr:roomC ls c=0
      ·have h2:=hset ls h _ (lotAt ls a).free hi.1
       have h3:=hset _ h2 (idx b ls) (lotAt ls b).free (by rw [List.length_set];exact hi.2)
       rw [gset_ne hne] at h3
       refine h3.snoc ?_ (by simp [mkL]) rfl
       intro i hil
       rw [List.length_set,List.length_set] at hil
       have hf:=room_fresh hr i hil
       by_cases e:i=idx b ls
       ·subst e;rw [gset_eq (by rw [List.length_set];exact hi.2)];exact hf
       ·rw [gset_ne e]
        by_cases e':i=idx a ls
        ·subst e';rw [gset_eq hi.1];exact hf
        ·rw [gset_ne e'];exact hf
      ·rw [if_neg hr] at hc;exact absurd hc hr
    ·rw [if_neg hi] at hc;omega
   ·rw [if_neg hc];exact h
  ·rename_i a b heq
   show Good os (scrapS ls a b)
   unfold scrapS
   by_cases hc:scrapC ls a b=0
   ·rw [if_pos hc]
    unfold scrapC at hc
    by_cases hi:idx a ls<ls.length
    ·exact h.set hi rfl rfl rfl
    ·rw [if_neg hi] at hc;omega
   ·rw [if_neg hc];exact h
  ·exact good_stepS h _
end Go.Proofs.YtgcedalggnmooabGreatDoor
