import Derived.Test.YtgcedalggnmooaaGreatDoorR9X
import Derived.Test.YtgcedalggnmooaaGreatDoorR11X
import Derived.Test.YtgcedalggnmooaaGreatDoorSt15X
import Derived.Test.YtgcedalggnmooaaGreatDoorR3X
set_option linter.unusedSimpArgs false
set_option linter.unusedVariables false
set_option maxRecDepth 100000
namespace Go.Proofs.YtgcedalggnmooaaGreatDoor
open Go.RowKit
theorem mergeC_cases (ls:List L) (a b m:Nat) (hi:idx a ls<ls.length) :
  (¬ idx b ls<ls.length∧mergeC ls a b m=4) ∨
  (idx b ls<ls.length∧(idx a ls=idx b ls∨(lotAt ls a).goods≠(lotAt ls b).goods)∧mergeC ls a b m=8) ∨
  (idx b ls<ls.length∧idx a ls≠idx b ls∧(lotAt ls a).goods=(lotAt ls b).goods∧0<mergeC ls a b m ∧
   ((roomC ls m≠0∧mergeC ls a b m=roomC ls m)∨(roomC ls m=0∧(lotAt ls a).free+(lotAt ls b).free=0∧mergeC ls a b m=7)∨(roomC ls m=0∧2147483647<(lotAt ls a).free+(lotAt ls b).free∧mergeC ls a b m=2))) ∨
  (idx b ls<ls.length∧idx a ls≠idx b ls∧(lotAt ls a).goods=(lotAt ls b).goods∧roomC ls m=0∧(lotAt ls a).free+(lotAt ls b).free≠0∧(lotAt ls a).free+(lotAt ls b).free≤2147483647∧mergeC ls a b m=0):=by
 unfold mergeC
 by_cases hj:idx b ls<ls.length
 ·rw [if_pos ⟨hi,hj⟩]
  by_cases hg:idx a ls=idx b ls∨(lotAt ls a).goods≠(lotAt ls b).goods
  ·rw [if_pos hg];right;left;exact ⟨hj,hg,rfl⟩
  ·rw [if_neg hg]
   have h1:idx a ls≠idx b ls:=fun h=>hg (Or.inl h)
   have h2:(lotAt ls a).goods=(lotAt ls b).goods:=Decidable.byContradiction fun h=>hg (Or.inr h)
   right;right
   by_cases hr:roomC ls m=0
   ·rw [if_pos hr]
    by_cases hz:(lotAt ls a).free+(lotAt ls b).free=0
    ·rw [if_pos hz];left;exact ⟨hj,h1,h2,by omega,Or.inr (Or.inl ⟨hr,hz,rfl⟩)⟩
    ·rw [if_neg hz]
     by_cases hq:2147483647<(lotAt ls a).free+(lotAt ls b).free
     ·rw [if_pos hq];left;exact ⟨hj,h1,h2,by omega,Or.inr (Or.inr ⟨hr,hq,rfl⟩)⟩
     ·rw [if_neg hq];right;exact ⟨hj,h1,h2,hr,hz,by omega,rfl⟩
   ·rw [if_neg hr];left;exact ⟨hj,h1,h2,by omega,Or.inl ⟨hr,rfl⟩⟩
 ·left;rw [if_neg (fun h=>hj h.2)];exact ⟨hj,rfl⟩
theorem mergeR_fn {rcs:List (Nat × Nat)} {Z:Nat→Prop} {w:World} {R td:Nat} {v:Value} {fs:List Value} {rec:ByteArray} {ls:List L} {os:List O} {ro:Ro} (hP:RV os rcs ro w R v td rec fs ls) (hZ:Z R) (hZv:∀ g,v.ownBlock=some g→Z g) (hZo:∀ g,OB ro g→Z g) (gn cap0:Nat) (a b m:Nat) (hns:NS w gn [a,b,m]) (h1:a≤2147483647) (h2:b≤2147483647) (h3:m≤2147483647) (hi:idx a ls<ls.length) :
  Calls Tryz.prog 112 #[.pointer (some ⟨R,0,none⟩),.int .i64 (idx a ls:Int),.slice (some ⟨gn,0,none⟩) 3 cap0] w fun e w'=>Kp Z w w'∧e=.returned (.int .i64 (mergeC ls a b m:Int))∧RI os rcs (Zn Z w) w' R td rec (mergeS ls a b m):=by
 rcases mergeC_cases ls a b m hi with ⟨hj,hc⟩ | ⟨hj,hx,hc⟩ | ⟨hj,he,hg,h0,hx⟩ | ⟨hj,he,hg,hr,hz,hz2,hc⟩
 ·have hS:mergeS ls a b m=ls:=if_neg (by omega)
  rw [hS,hc]
  exact (mergeR_none hP gn cap0 a b m hns h2 (idx a ls) hi hj).mono fun e w' ⟨he,hb⟩=>⟨kpB hb,he,v,fs,ro,hP.below hb,Or.inl hZ,fun g hg=>Or.inl (hZv g hg),fun g hg=>Or.inl (hZo g hg)⟩
 ·have hS:mergeS ls a b m=ls:=if_neg (by omega)
  rw [hS,hc]
  exact (mergeR_goods hP gn cap0 a b m hns h2 (idx a ls) hi hj hx).mono fun e w' ⟨he,hb⟩=>⟨kpB hb,he,v,fs,ro,hP.below hb,Or.inl hZ,fun g hg=>Or.inl (hZv g hg),fun g hg=>Or.inl (hZo g hg)⟩
 ·have hS:mergeS ls a b m=ls:=if_neg (by omega)
  rw [hS]
  exact (mergeR_late hP gn cap0 a b m hns h2 h3 (idx a ls) hi hj he hg (mergeC ls a b m) h0 hx).mono fun e w' ⟨he,hb⟩=>⟨kpB hb,he,v,fs,ro,hP.below hb,Or.inl hZ,fun g hg=>Or.inl (hZv g hg),fun g hg=>Or.inl (hZo g hg)⟩
 ·have hS:mergeS ls a b m=_:=if_pos hc
  rw [hS,hc]
  by_cases hE:(lotAt ls b).expiry<(lotAt ls a).expiry
  ·by_cases hB:b<a
   ·exact mergeR_yes1 hP hZ hZv hZo gn cap0 a b m hns h1 h2 h3 hi hj he hg hr hz hz2 hE hB
   ·exact mergeR_yes3 hP hZ hZv hZo gn cap0 a b m hns h1 h2 h3 hi hj he hg hr hz hz2 hE hB
  ·by_cases hB:b<a
   ·exact mergeR_yes2 hP hZ hZv hZo gn cap0 a b m hns h1 h2 h3 hi hj he hg hr hz hz2 hE hB
   ·exact mergeR_yes4 hP hZ hZv hZo gn cap0 a b m hns h1 h2 h3 hi hj he hg hr hz hz2 hE hB
set_option maxHeartbeats 1600000 in
theorem mergeR_any {rcs:List (Nat × Nat)} {Z:Nat→Prop} {w:World} {R td:Nat} {rec:ByteArray} {ls:List L} {os:List O} (h:RI os rcs Z w R td rec ls) (gn cap0:Nat) (a b m:Nat) (hns:NS w gn [a,b,m]) (h1:a≤2147483647) (h2:b≤2147483647) (h3:m≤2147483647) :
  Calls Tryz.prog 68 #[.pointer (some ⟨R,0,none⟩),.int .i64 4,.slice (some ⟨gn,0,none⟩) 3 cap0] w fun e w'=>Kp Z w w'∧e=.returned (.int .i64 (mergeC ls a b m:Int))∧RI os rcs (Zn Z w) w' R td rec (mergeS ls a b m):=by
 obtain ⟨v,fs,ro,hP,hZ,hZv,hZo⟩:=h
 have n0:w.cell? ⟨gn,0,none⟩=some (.int .i64 (a:Int)):=hns.2 0 (by simp)
 have HA:=hide (at_any hP a h1)
 by_cases hi:idx a ls<ls.length
 ·have HF:=hide (mergeR_fn hP hZ hZv hZo gn cap0 a b m hns h1 h2 h3 hi)
  have HV0:Hid (atV ls a=(idx a ls:Int)):=by unfold Hid atV;rw [if_pos hi]
  rw [HV0.out] at HA
  have hroom:=hP.room
  generalize mergeS ls a b m=ls' at HF ⊢
  generalize mergeC ls a b m=rc at HF ⊢
  clear HV0
  generalize idx a ls=i at *
  obtain ⟨len,HN⟩:∃ len,Hid (len=ls.length):=⟨_,rfl⟩
  rw [← HN.out] at hi hroom
  clear hP hns hZ hZv hZo
  go_enter Tryz.func68,Tryz.ntmps68
  go_wp2_with (first
   | (go_at_call 111;refine (HA.out).mono ?_;rintro e w1 ⟨rfl,rfl⟩)
   | (go_at_call 112;refine (HF.out).mono ?_;rintro e w1 ⟨hk,rfl,hri⟩))
  go_ret
  exact ⟨hk,rfl,hri⟩
 ·have HV0:Hid (atV ls a=-1):=by unfold Hid atV;rw [if_neg hi]
  have HC:Hid (mergeC ls a b m=4):=by unfold Hid mergeC;rw [if_neg (fun h=>hi h.1)]
  have HS:Hid (mergeS ls a b m=ls):=by unfold Hid;exact if_neg (by rw [HC.out];omega)
  rw [HV0.out] at HA
  rw [HC.out,HS.out]
  have HP:=hide hP
  clear hP hi HV0 HC HS hns
  go_enter Tryz.func68,Tryz.ntmps68
  go_wp2_with (go_at_call 111;refine (HA.out).mono ?_;rintro e w1 ⟨rfl,rfl⟩)
  go_ret
  exact ⟨Kp.refl _ _,rfl,v,fs,ro,HP.out,Or.inl hZ,fun g hg=>Or.inl (hZv g hg),fun g hg=>Or.inl (hZo g hg)⟩
set_option maxHeartbeats 1600000 in
theorem doesR_split {rcs:List (Nat × Nat)} {Z:Nat→Prop} {w:World} {R td:Nat} {rec:ByteArray} {ls:List L} {os:List O} (h:RI os rcs Z w R td rec ls) (gn cap:Nat) (a b c:Nat) (hn:NS w gn [a,b,c])
  (h1:a≤2147483647) (h2:b≤2147483647) (h3:c≤2147483647) :
  Calls Tryz.prog 51 #[.pointer (some ⟨R,0,none⟩),.int .i64 3,.slice (some ⟨gn,0,none⟩) 3 cap] w fun e w'=>Kp Z w w'∧e=.returned (.tuple #[.slice none 0 0,.int .i64 (splitC ls a b c:Int)])∧RI os rcs (Zn Z w) w' R td rec (splitS ls a b c):=by
 have HC:=hide (splitR_any h gn cap a b c hn h1 h2 h3)
 generalize splitS ls a b c=ls' at HC ⊢
 generalize splitC ls a b c=rc at HC ⊢
 clear h hn
 go_enter Tryz.func51,Tryz.ntmps51
 go_wp2_with (go_at_call 68;refine (HC.out).mono ?_;rintro e w1 ⟨hk,rfl,hri⟩)
 go_ret2
 exact ⟨hk,rfl,hri⟩
set_option maxHeartbeats 1600000 in
theorem doesR_merge {rcs:List (Nat × Nat)} {Z:Nat→Prop} {w:World} {R td:Nat} {rec:ByteArray} {ls:List L} {os:List O} (h:RI os rcs Z w R td rec ls) (gn cap:Nat) (a b c:Nat) (hn:NS w gn [a,b,c])
  (h1:a≤2147483647) (h2:b≤2147483647) (h3:c≤2147483647) :
  Calls Tryz.prog 51 #[.pointer (some ⟨R,0,none⟩),.int .i64 4,.slice (some ⟨gn,0,none⟩) 3 cap] w fun e w'=>Kp Z w w'∧e=.returned (.tuple #[.slice none 0 0,.int .i64 (mergeC ls a b c:Int)])∧RI os rcs (Zn Z w) w' R td rec (mergeS ls a b c):=by
 have HC:=hide (mergeR_any h gn cap a b c hn h1 h2 h3)
 generalize mergeS ls a b c=ls' at HC ⊢
 generalize mergeC ls a b c=rc at HC ⊢
 clear h hn
 go_enter Tryz.func51,Tryz.ntmps51
 go_wp2_with (go_at_call 68;refine (HC.out).mono ?_;rintro e w1 ⟨hk,rfl,hri⟩)
 go_ret2
 exact ⟨hk,rfl,hri⟩
set_option maxHeartbeats 1600000 in
theorem doesR_scrap {rcs:List (Nat × Nat)} {Z:Nat→Prop} {w:World} {R td:Nat} {rec:ByteArray} {ls:List L} {os:List O} (h:RI os rcs Z w R td rec ls) (gn cap:Nat) (a b:Nat) (hn:NS w gn [a,b])
  (h1:a≤2147483647) (h2:b≤2147483647) :
  Calls Tryz.prog 51 #[.pointer (some ⟨R,0,none⟩),.int .i64 10,.slice (some ⟨gn,0,none⟩) 2 cap] w fun e w'=>Kp Z w w'∧e=.returned (.tuple #[.slice none 0 0,.int .i64 (scrapC ls a b:Int)])∧RI os rcs (Zn Z w) w' R td rec (scrapS ls a b):=by
 have HC:=hide (scrapR_any h gn cap a b hn h1 h2)
 generalize scrapS ls a b=ls' at HC ⊢
 generalize scrapC ls a b=rc at HC ⊢
 clear h hn
 go_enter Tryz.func51,Tryz.ntmps51
 go_wp2_with (go_at_call 73;refine (HC.out).mono ?_;rintro e w1 ⟨hk,rfl,hri⟩)
 go_ret2
 exact ⟨hk,rfl,hri⟩
end Go.Proofs.YtgcedalggnmooaaGreatDoor
namespace Go.Proofs.YtgcedalggnmooaaGreatDoor
open Go.RowKit
theorem hR_code {rcs:List (Nat × Nat)} {Z:Nat→Prop} {os:List O} {w:World} {R td:Nat} {rec:ByteArray} (hZR:Z R) (hrec:rec.size≤1000000000000000) (s:ByteArray) (hs:s.size≤2097143) (c:Nat) (hc10:c≤10) (ns:List Nat) (hcf:Pl.cmd s.data.toList=.ok (c,ns)) (rc:Nat) (hrc:rc≤9) (ls':List L)
  (HD:∀ w1,Below w.heap.size w w1→DoesAt R c ns w1 fun e w'=>Kp Z w1 w'∧e=.returned (.tuple #[.slice none 0 0,.int .i64 (rc:Int)])∧RI os rcs (Zn Z w1) w' R td rec ls') :
  Calls Tryz.prog 37 #[.pointer (some ⟨R,0,none⟩),.string s] w fun e w'=>e=.returned (.string ⟨[UInt8.ofNat rc].toArray⟩)∧Kp Z w w'∧∃ rec',RecX rec s rec' [UInt8.ofNat rc]∧RI os rcs (Zn Z w) w' R td rec' ls':=by
 have hs':s.size≤2097152:=by omega
 by_cases h0:rc=0
 ·subst h0
  refine (hR_log (os:=os) (rcs:=rcs) w R td rec hrec ls' s hs c hc10 ns hcf (fun w1 hb1 gn cap hn=>?_) hZR).mono ?_
  ·refine (HD w1 hb1 gn cap hn).mono ?_
   rintro e w2 ⟨hk,q2,q3⟩
   exact ⟨q2,hk,q3⟩
  ·rintro e w' ⟨h1,h2,rec',h3,h4⟩
   exact ⟨h1,h2,rec',RecX.yes hcf (by omega) h3 hs rfl,h4⟩
 ·refine (hR_err w R s hs' c ns hcf rc (by omega) (by omega) (fun w2=>Kp Z w w2∧RI os rcs (Zn Z w) w2 R td rec ls') (fun w1 hb1 gn cap hn=>?_)).mono ?_
  ·refine (HD w1 hb1 gn cap hn).mono ?_
   rintro e w2 ⟨hk,q2,q3⟩
   exact ⟨q2,Kp.before hb1 (hk.mono (fun k h=>Or.inl h)),q3.mono (fun k hk=>hk.elim Or.inl (fun h=>Or.inr (Nat.le_trans hb1.size h)))⟩
  ·rintro e w' ⟨h1,w2,⟨q1,q2⟩,hb2⟩
   exact ⟨h1,q1.after hb2,rec,RecX.no1 (ofNat_ne0 h0 (by omega)),q2.below hb2⟩
theorem handleRT_any {rcs:List (Nat × Nat)} {Z:Nat→Prop} {w:World} {R td:Nat} {rec:ByteArray} {ls:List L} {os:List O} (h:RI os rcs Z w R td rec ls) (hrec:rec.size≤1000000000000000) (s:ByteArray) (hs:s.size≤2097143) (hp:PlayedT (Pl.cmd s.data.toList)) :
  Calls Tryz.prog 37 #[.pointer (some ⟨R,0,none⟩),.string s] w fun e w'=>e=.returned (.string ⟨(stepT rcs td ls (Pl.cmd s.data.toList)).1.toArray⟩)∧Kp Z w w'∧∃ rec',RecX rec s rec' (stepT rcs td ls (Pl.cmd s.data.toList)).1∧RI os rcs (Zn Z w) w' R (stepT rcs td ls (Pl.cmd s.data.toList)).2.1 rec' (stepT rcs td ls (Pl.cmd s.data.toList)).2.2:=by
 have hZR:Z R:=by obtain ⟨v,fs,ro,_,hz,_⟩:=h;exact hz
 rcases played_or hp with hold | ⟨c,ns,hform,hm,hcf,h3,hlen,hlt⟩
 ·rw [stepT_old hold];exact handleR_any h hrec s hs hold
 ·rw [hcf]
  rcases h3 with rfl | rfl | rfl
  ·obtain ⟨a,b,c,rfl⟩:=len3 hlen
   have hd:a≤2147483647∧b≤2147483647∧c≤2147483647:=by simp [Pl.mays,Pl.kindsL,Pl.mayB] at hm;omega
   exact hR_code hZR hrec s hs 3 (by omega) [a,b,c] hcf (splitC ls a b c) (splitC_le _ _ _ _) (splitS ls a b c) (fun w1 hb1 gn cap hn=>doesR_split (h.below hb1) gn cap a b c hn hd.1 hd.2.1 hd.2.2)
  ·obtain ⟨a,b,c,rfl⟩:=len3 hlen
   have hd:a≤2147483647∧b≤2147483647∧c≤2147483647:=by simp [Pl.mays,Pl.kindsL,Pl.mayB] at hm;omega
   exact hR_code hZR hrec s hs 4 (by omega) [a,b,c] hcf (mergeC ls a b c) (mergeC_le _ _ _ _) (mergeS ls a b c) (fun w1 hb1 gn cap hn=>doesR_merge (h.below hb1) gn cap a b c hn hd.1 hd.2.1 hd.2.2)
  ·obtain ⟨a,b,rfl⟩:=len2 hlen
   have hd:a≤2147483647∧b≤2147483647:=by simp [Pl.mays,Pl.kindsL,Pl.mayB] at hm;omega
   exact hR_code hZR hrec s hs 10 (by omega) [a,b] hcf (scrapC ls a b) (scrapC_le _ _ _) (scrapS ls a b) (fun w1 hb1 gn cap hn=>doesR_scrap (h.below hb1) gn cap a b hn hd.1 hd.2)
end Go.Proofs.YtgcedalggnmooaaGreatDoor
