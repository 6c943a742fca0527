import Derived.Test.YtgcedalggnmooaaGreatDoorR1X
import Derived.Test.YtgcedalggnmooaaGreatDoorDo1X
import Derived.Test.YtgcedalggnmooaaGreatDoorRefAX
import Derived.Test.YtgcedalggnmooaaGreatDoorChkAX
set_option linter.unusedSimpArgs false
set_option linter.unusedVariables false
set_option maxRecDepth 100000
namespace Go.Proofs.YtgcedalggnmooaaGreatDoor
open Go.RowKit
def RI (os:List O) (rcs:List (Nat × Nat)) (Z:Nat→Prop) (w:World) (R td:Nat) (rec:ByteArray) (ls:List L):Prop:=∃ v fs,∃ ro:Ro,RV os rcs ro w R v td rec fs ls∧Z R∧(∀ g,v.ownBlock=some g→Z g)∧(∀ g,OB ro g→Z g)
theorem RI.mono {rcs:List (Nat × Nat)} {Z Z':Nat→Prop} {w:World} {R td:Nat} {rec:ByteArray} {ls:List L} {os:List O} (h:RI os rcs Z w R td rec ls) (hz:∀ k,Z k→Z' k):RI os rcs Z' w R td rec ls:=by
 obtain ⟨v,fs,ro,h1,h2,h3,h4⟩:=h
 exact ⟨v,fs,ro,h1,hz _ h2,fun g hg=>hz _ (h3 g hg),fun g hg=>hz _ (h4 g hg)⟩
theorem RI.below {rcs:List (Nat × Nat)} {Z:Nat→Prop} {w w':World} {R td:Nat} {rec:ByteArray} {ls:List L} {os:List O} (h:RI os rcs Z w R td rec ls) (hb:Below w.heap.size w w'):RI os rcs Z w' R td rec ls:=by
 obtain ⟨v,fs,ro,h1,h2,h3,h4⟩:=h
 exact ⟨v,fs,ro,h1.below hb,h2,h3,h4⟩
theorem RI.congr {rcs:List (Nat × Nat)} {Z:Nat→Prop} {w w':World} {R td:Nat} {rec:ByteArray} {ls:List L} {os:List O} (h:RI os rcs Z w R td rec ls) (hq:∀ k,Z k→w'.heap[k]?=w.heap[k]?):RI os rcs Z w' R td rec ls:=by
 obtain ⟨v,fs,ro,h1,h2,h3,h4⟩:=h
 exact ⟨v,fs,ro,⟨(hq R h2).trans h1.store,own_congr h1.row (fun g hg=>hq g (h3 g hg)),h1.flen,h1.fro,h1.ord.congr (fun g hg=>hq g (h4 g hg)),h1.today,h1.ok,h1.room,h1.fam,h1.rc⟩,h2,h3,h4⟩
def NS (w:World) (gn:Nat) (ns:List Nat):Prop:=(∃ cs,w.heap[gn]?=some (.cells cs 3 (0,0)))∧∀ j,j<ns.length→w.cell? ⟨gn,j,none⟩=some (.int .i64 (ns.getD j 0:Nat))
theorem NS.of_own {w:World} {base gn cap:Nat} {ns:List Nat} (h:w.ownsRow base 3 1 (.slice (some ⟨gn,0,none⟩) ns.length cap) ns.length (I ns)):NS w gn ns :=
 ⟨own_ty h rfl,fun j hj=>rowI_cell h rfl j hj⟩
theorem drewB (w:World):Below w.heap.size w w.drew:=(Below.refl _ _).drew
set_option maxHeartbeats 1600000 in
theorem comeR_any {rcs:List (Nat × Nat)} {Z:Nat→Prop} {w:World} {R td:Nat} {rec:ByteArray} {ls:List L} {os:List O} (h:RI os rcs Z w R td rec ls) (gn cap:Nat) (a b c d:Nat) (hn:NS w gn [a,b,c,d])
  (h1:a≤2147483647) (h2:b≤2147483647) (h3:c≤2147483647) (h4:d≤2147483647) :
  Calls Tryz.prog 68 #[.pointer (some ⟨R,0,none⟩),.int .i64 2,.slice (some ⟨gn,0,none⟩) 4 cap] w fun e w'=>Kp Z w w'∧e=.returned (.int .i64 (roomC ls a:Int))∧RI os rcs (Zn Z w) w' R td rec (if roomC ls a=0 then ls++[newL ls a b c d] else ls):=by
 obtain ⟨v,fs,ro,hP,hZ,hZv,hZo⟩:=h
 obtain ⟨⟨cs,hcs⟩,hcells⟩:=hn
 have n0:w.cell? ⟨gn,0,none⟩=some (.int .i64 (a:Int)):=hcells 0 (by simp)
 have n1:w.cell? ⟨gn,1,none⟩=some (.int .i64 (b:Int)):=hcells 1 (by simp)
 have n2:w.cell? ⟨gn,2,none⟩=some (.int .i64 (c:Int)):=hcells 2 (by simp)
 have n3:w.cell? ⟨gn,3,none⟩=some (.int .i64 (d:Int)):=hcells 3 (by simp)
 have HR:=hide (roomR_any hP a h1)
 have hrle:roomC ls a≤6:=by unfold roomC;split <;> (try split) <;> omega
 by_cases hr:roomC ls a=0
 ·have hl30:ls.length<30:=by
   unfold roomC at hr
   by_cases hq:30≤ls.length
   ·split at hr
    ·omega
    ·omega
   ·omega
  have HA:=hide (addR_any (hP.below (drewB w)) a b d c none 0 0 [] (Or.inl ⟨rfl,rfl⟩) (fun g h=>by cases h) ⟨by simp,by simp⟩ (hP.fam.snoc (room_fresh hr) (fun p hp=>by cases hp)) hl30 h1 h2 h4 h3)
  have hgn:=blk_lt hcs
  have HgR:Hid (gn≠R):=ty_ne hcs hP.store (by decide)
  have Hgv:Hid (v.ownBlock≠some gn):=fun e=>by
   obtain ⟨ds,hd⟩:=own_ty hP.row e
   exact ty_ne hcs hd (by decide) rfl
  have HZ:=hide hZ
  have HZv:=hide hZv
  have HZo:=hide hZo
  rw [hr] at HR ⊢
  rw [if_pos rfl]
  clear hP hr hcells hcs hZ hZv hZo
  go_enter Tryz.func68,Tryz.ntmps68
  go_wp2_with (go_at_call 109;refine (HR.out).mono ?_;rintro e w1 ⟨rfl,rfl⟩)
  go_region_held3 (fun w'=>w'.cell? ⟨gn,0,none⟩=some (.int .i64 (a:Int))∧w'.cell? ⟨gn,1,none⟩=some (.int .i64 (b:Int))∧w'.cell? ⟨gn,2,none⟩=some (.int .i64 (c:Int))∧w'.cell? ⟨gn,3,none⟩=some (.int .i64 (d:Int))) (go_keep)
   (first
    | (go_at_call 110;refine (HA.out).mono ?_;rintro e w2 ⟨rfl,hk,v',hrv,hat⟩;have hq:=hk.block gn hgn (fun h=>h.elim HgR.out Hgv.out);have m0:=(World.cell?_of_block (a:=⟨gn,0,none⟩) hq).trans n0;have m1:=(World.cell?_of_block (a:=⟨gn,1,none⟩) hq).trans n1;have m2:=(World.cell?_of_block (a:=⟨gn,2,none⟩) hq).trans n2;have m3:=(World.cell?_of_block (a:=⟨gn,3,none⟩) hq).trans n3))
  clear m0 m1 m2 m3 hq n0 n1 n2 n3
  go_wp2_with fail
  go_ret
  refine ⟨?_,rfl,v',_,_,hrv,Or.inl HZ.out,fun g hg=>?_,fun g hg=>(OB_lot hg).elim (fun h=>Or.inl (HZo.out g h)) (fun h=>by cases h)⟩
  ·exact Kp.before (drewB _) (hk.mono (fun k hq=>Or.inl (hq.elim (fun e=>e ▸ HZ.out) (fun e=>HZv.out k e))))
  ·rcases hat g hg with h | h
   ·exact Or.inl (HZv.out g h)
   ·exact Or.inr h
 ·rw [if_neg hr]
  have hrb:((roomC ls a:Int) == 0)=false:=by rw [beq_eq_false_iff_ne];omega
  have hri:RI os rcs (Zn Z w) w R td rec ls:=⟨v,fs,ro,hP,Or.inl hZ,fun g hg=>Or.inl (hZv g hg),fun g hg=>Or.inl (hZo g hg)⟩
  have HRI:=hide hri
  generalize roomC ls a=rc at *
  clear hP hcells hcs hri
  go_enter Tryz.func68,Tryz.ntmps68
  go_wp2_with (go_at_call 109;refine (HR.out).mono ?_;rintro e w1 ⟨rfl,rfl⟩)
  go_ret
  exact ⟨Kp.refl _ _,rfl,HRI.out⟩
end Go.Proofs.YtgcedalggnmooaaGreatDoor
namespace Go.Proofs.YtgcedalggnmooaaGreatDoor
open Go.RowKit
theorem RV.store_set {rcs:List (Nat × Nat)} {w w':World} {R:Nat} {v:Value} {td td':Nat} {rec rec':ByteArray} {fs:List Value} {ls:List L} {os:List O} {ro:Ro} (h:RV os rcs ro w R v td rec fs ls)
  (hR:w'.heap[R]?=some (.cells #[.int .i64 (td':Int),v,ro.ov,ro.rv,.string rec'] 42 (0,0))) (hq:∀ k,k≠R→w'.heap[k]?=w.heap[k]?) (ht:td'≤2147483647):RV os rcs ro w' R v td' rec' fs ls := {
 store:=hR
 row:=own_congr h.row (fun g hg=>hq g (by
  obtain ⟨cs,hc⟩:=own_ty h.row hg
  exact (ty_ne h.store hc (by decide)).symm))
 flen:=h.flen
 fro:=h.fro
 ord:=h.ord.congr (fun g hg=>hq g (h.ord.ne hg h.store (by decide) (by decide)))
 today:=ht
 ok:=h.ok
 room:=h.room
 fam:=h.fam
 rc:=h.rc }
theorem RV.days {rcs:List (Nat × Nat)} {w:World} {R:Nat} {v:Value} {td:Nat} {rec:ByteArray} {fs:List Value} {ls:List L} {os:List O} {ro:Ro} (h:RV os rcs ro w R v td rec fs ls) (d:Nat) (hd:d≤2147483647):RV os rcs ro (w.setCell ⟨R,0,none⟩ (.int .i64 (d:Int))) R v d rec fs ls:=by
 refine h.store_set ?_ (fun k hk=>Below.heap_setCell _ _ _ _ hk) hd
 have:=heap_setCell_same w R 0 _ 42 (.int .i64 (d:Int)) h.store
 simpa using this
theorem RV.recs {rcs:List (Nat × Nat)} {w:World} {R:Nat} {v:Value} {td:Nat} {rec:ByteArray} {fs:List Value} {ls:List L} {os:List O} {ro:Ro} (h:RV os rcs ro w R v td rec fs ls) (rec':ByteArray):RV os rcs ro (w.setCell ⟨R,4,none⟩ (.string rec')) R v td rec' fs ls:=by
 refine h.store_set ?_ (fun k hk=>Below.heap_setCell _ _ _ _ hk) h.today
 have:=heap_setCell_same w R 4 _ 42 (.string rec') h.store
 simpa using this
set_option maxHeartbeats 1600000 in
theorem doesR_day {rcs:List (Nat × Nat)} {Z:Nat→Prop} {w:World} {R td:Nat} {rec:ByteArray} {ls:List L} {os:List O} (h:RI os rcs Z w R td rec ls) (gn cap d:Nat) (hn:NS w gn [d]) (hd:d≤2147483647) :
  Calls Tryz.prog 51 #[.pointer (some ⟨R,0,none⟩),.int .i64 1,.slice (some ⟨gn,0,none⟩) 1 cap] w fun e w'=>Kp Z w w' ∧
   ((d<td∧e=.returned (.tuple #[.slice none 0 0,.int .i64 3])∧RI os rcs (Zn Z w) w' R td rec ls)∨(td≤d∧e=.returned (.tuple #[.slice none 0 0,.int .i64 0])∧RI os rcs (Zn Z w) w' R d rec ls)):=by
 obtain ⟨v,fs,ro,hP,hZ,hZv,hZo⟩:=h
 have n0:w.cell? ⟨gn,0,none⟩=some (.int .i64 (d:Int)):=hn.2 0 (by simp)
 have c0:=hP.c0
 have f0:=blk_free hP.store 0
 have htd:=hP.today
 have HP:=hide hP
 clear hP hn
 by_cases hlt:d<td
 ·have hdb:decide ((d:Int)<(td:Int))=true:=by simp;omega
  go_enter Tryz.func51,Tryz.ntmps51
  go_wp2_with fail
  go_quiet (fail)
  go_wp2_with fail
  go_ret2
  exact ⟨kpB (below_drewN (Below.refl _ _) nq),Or.inl ⟨hlt,rfl,v,fs,ro,HP.out.below (below_drewN (Below.refl _ _) nq),Or.inl hZ,fun g hg=>Or.inl (hZv g hg),fun g hg=>Or.inl (hZo g hg)⟩⟩
 ·have hge:td≤d:=by omega
  have hdb:decide ((d:Int)<(td:Int))=false:=by simp;omega
  go_enter Tryz.func51,Tryz.ntmps51
  go_wp2_with fail
  go_quiet (fail)
  go_wp2_with fail
  go_ret2
  have hb:=below_drewN (Below.refl w.heap.size w) nq
  refine ⟨?_,Or.inr ⟨hge,rfl,v,fs,ro,?_,Or.inl hZ,fun g hg=>Or.inl (hZv g hg),fun g hg=>Or.inl (hZo g hg)⟩⟩
  ·exact ((Kp.refl Z w).setCell (p:=⟨R,0,none⟩) (Or.inl hZ) (.int .i64 (d:Int))).after (below_drewN (Below.refl _ _) nq)
  ·exact (HP.out.days d hd).below (below_drewN (Below.refl _ _) nq)
set_option maxHeartbeats 1600000 in
theorem doesR_receive {rcs:List (Nat × Nat)} {Z:Nat→Prop} {w:World} {R td:Nat} {rec:ByteArray} {ls:List L} {os:List O} (h:RI os rcs Z w R td rec ls) (gn cap:Nat) (a b c d:Nat) (hn:NS w gn [a,b,c,d])
  (h1:a≤2147483647) (h2:b≤2147483647) (h3:c≤2147483647) (h4:d≤2147483647) :
  Calls Tryz.prog 51 #[.pointer (some ⟨R,0,none⟩),.int .i64 2,.slice (some ⟨gn,0,none⟩) 4 cap] w fun e w'=>Kp Z w w'∧e=.returned (.tuple #[.slice none 0 0,.int .i64 (roomC ls a:Int)])∧RI os rcs (Zn Z w) w' R td rec (if roomC ls a=0 then ls++[newL ls a b c d] else ls):=by
 have HC:=hide (comeR_any h gn cap a b c d hn h1 h2 h3 h4)
 generalize (if roomC ls a=0 then ls++[newL ls a b c d] else ls)=ls' at HC ⊢
 generalize roomC ls a=rc at HC ⊢
 clear h hn
 go_enter Tryz.func51,Tryz.ntmps51
 go_wp2_with (go_at_call 68;refine (HC.out).mono ?_;rintro e w1 ⟨hk,rfl,hri⟩)
 go_ret2
 exact ⟨hk,rfl,hri⟩
set_option maxHeartbeats 1600000 in
theorem doesR_lookhit {rcs:List (Nat × Nat)} {w:World} {R:Nat} {v:Value} {td:Nat} {rec:ByteArray} {fs:List Value} {ls:List L} {os:List O} {ro:Ro} (h:RV os rcs ro w R v td rec fs ls) (gn cap n:Nat) (hn:NS w gn [n]) (h1:n≤2147483647) (hi:idx n ls<ls.length) :
  Calls Tryz.prog 51 #[.pointer (some ⟨R,0,none⟩),.int .i64 11,.slice (some ⟨gn,0,none⟩) 1 cap] w fun e w'=>Below w.heap.size w w'∧∃ g,e=.returned (.tuple #[.slice (some ⟨g,0,none⟩) 10 10,.int .i64 0])∧w'.heap[g]?=some (.cells (I (lookL (recB rcs ls) (ls.getD (idx n ls) L0))).toArray 3 (0,0)):=by
 have n0:w.cell? ⟨gn,0,none⟩=some (.int .i64 (n:Int)):=hn.2 0 (by simp)
 have HC:=hide (lookR_hit h n h1 hi)
 generalize ls.getD (idx n ls) L0=l at HC ⊢
 clear h hn hi
 go_enter Tryz.func51,Tryz.ntmps51
 go_wp2_with (go_at_call 74;refine (HC.out).mono ?_;rintro e w1 ⟨hb,g,rfl,hg⟩)
 go_ret2
 exact ⟨hb,g,rfl,hg⟩
set_option maxHeartbeats 1600000 in
theorem doesR_lookmiss {rcs:List (Nat × Nat)} {w:World} {R:Nat} {v:Value} {td:Nat} {rec:ByteArray} {fs:List Value} {ls:List L} {os:List O} {ro:Ro} (h:RV os rcs ro w R v td rec fs ls) (gn cap n:Nat) (hn:NS w gn [n]) (h1:n≤2147483647) (hi:¬ idx n ls<ls.length) :
  Calls Tryz.prog 51 #[.pointer (some ⟨R,0,none⟩),.int .i64 11,.slice (some ⟨gn,0,none⟩) 1 cap] w fun e w'=>w'=w∧e=.returned (.tuple #[.slice none 0 0,.int .i64 4]):=by
 have n0:w.cell? ⟨gn,0,none⟩=some (.int .i64 (n:Int)):=hn.2 0 (by simp)
 have HC:=hide (lookR_miss h n h1 hi)
 clear h hn hi
 go_enter Tryz.func51,Tryz.ntmps51
 go_wp2_with (go_at_call 74;refine (HC.out).mono ?_;rintro e w1 ⟨rfl,rfl⟩)
 go_ret2
 exact ⟨rfl,rfl⟩
set_option maxHeartbeats 1600000 in
theorem doesR_supply {rcs:List (Nat × Nat)} {w:World} {R:Nat} {v:Value} {td:Nat} {rec:ByteArray} {fs:List Value} {ls:List L} {os:List O} {ro:Ro} (h:RV os rcs ro w R v td rec fs ls) (gn cap a b:Nat) (hn:NS w gn [a,b]) (h1:a≤2147483647) (h2:b≤2147483647) :
  Calls Tryz.prog 51 #[.pointer (some ⟨R,0,none⟩),.int .i64 12,.slice (some ⟨gn,0,none⟩) 2 cap] w fun e w'=>Below w.heap.size w w'∧∃ g,e=.returned (.tuple #[.slice (some ⟨g,0,none⟩) 2 2,.int .i64 0])∧w'.heap[g]?=some (.cells (I (supL rcs td a b ls)).toArray 3 (0,0)):=by
 have n0:w.cell? ⟨gn,0,none⟩=some (.int .i64 (a:Int)):=hn.2 0 (by simp)
 have n1:w.cell? ⟨gn,1,none⟩=some (.int .i64 (b:Int)):=hn.2 1 (by simp)
 obtain ⟨cs,hcs⟩:=hn.1
 have hgn:=blk_lt hcs
 have HC:=hide (supplyR_any (h.below (drewB w)) a b h1 h2)
 generalize supL rcs td a b ls=sl at HC ⊢
 clear h hn hcs
 go_enter Tryz.func51,Tryz.ntmps51
 go_wp2_with fail
 go_region_held3 (fun w'=>w'.cell? ⟨gn,0,none⟩=some (.int .i64 (a:Int))∧w'.cell? ⟨gn,1,none⟩=some (.int .i64 (b:Int))) (go_keep)
  (first
   | (go_at_call 75;refine (HC.out).mono ?_;rintro e w2 ⟨hb,g,rfl,hg⟩;have m0:=(hb.cell (p:=⟨gn,0,none⟩) hgn).trans n0;have m1:=(hb.cell (p:=⟨gn,1,none⟩) hgn).trans n1))
 clear m0 m1 n0 n1
 go_wp2_with fail
 go_ret2
 exact ⟨(drewB w).trans hb,g,rfl,hg⟩
end Go.Proofs.YtgcedalggnmooaaGreatDoor
namespace Go.Proofs.YtgcedalggnmooaaGreatDoor
open Go.RowKit
theorem ret_strB {a b:ByteArray} (h:a=b):Ending.returned (.string a)=.returned (.string b):=by rw [h]
set_option maxHeartbeats 800000 in
theorem hR_bad (w:World) (R:Nat) (s:ByteArray) (hs:s.size≤2097152) (b:Nat) (hb:b=1∨b=2) (hc:Pl.cmd s.data.toList=.error b) :
  Calls Tryz.prog 37 #[.pointer (some ⟨R,0,none⟩),.string s] w fun e w'=>e=.returned (.string ⟨[UInt8.ofNat b].toArray⟩)∧Below w.heap.size w w':=by
 have HC:Hid (Calls Tryz.prog 50 #[.string s] w fun e w'=>e=.returned (.tuple #[.int .i64 0,.slice none 0 0,.int .i64 (b:Int)])∧Below w.heap.size w w') :=
  (command_any s hs w).mono fun e w' ⟨h1,h2⟩=>by rw [hc] at h2;exact ⟨h2,h1⟩
 have hbb:((b:Int) != 0)=true:=by rw [bne_iff_ne];omega
 have hb2:b≤2:=by omega
 clear hc hb
 go_enter Tryz.func37,Tryz.ntmps37
 go_wp2_with (go_at_call 50;refine (HC.out).mono ?_;rintro e w1 ⟨rfl,hb1⟩;have hcv:=conv1 w1 (b:Int) (by omega) (by omega) (0,0))
 go_ret
 exact ⟨ret_strB (by simp),hb1.alloc hb1.size _⟩
def DoesAt (R c:Nat) (ns:List Nat) (w:World) (Q:Ending→World→Prop):Prop :=
 ∀ gn cap,NS w gn ns→Calls Tryz.prog 51 #[.pointer (some ⟨R,0,none⟩),.int .i64 (c:Int),.slice (some ⟨gn,0,none⟩) ns.length cap] w Q
theorem command_ok (s:ByteArray) (hs:s.size≤2097152) (w:World) (c:Nat) (ns:List Nat) (hc:Pl.cmd s.data.toList=.ok (c,ns)) :
  Calls Tryz.prog 50 #[.string s] w fun e w'=>Below w.heap.size w w'∧∃ gn cap,e=.returned (.tuple #[.int .i64 (c:Int),.slice (some ⟨gn,0,none⟩) ns.length cap,.int .i64 0])∧NS w' gn ns :=
 (command_any s hs w).mono fun e w' ⟨h1,h2⟩=>by
  rw [hc] at h2
  obtain ⟨g,cap,h3,h4⟩:=h2
  exact ⟨h1,g,cap,h3,NS.of_own h4⟩
set_option maxHeartbeats 800000 in
theorem hR_err (w:World) (R:Nat) (s:ByteArray) (hs:s.size≤2097152) (c:Nat) (ns:List Nat) (hc:Pl.cmd s.data.toList=.ok (c,ns)) (k:Nat) (hk:0<k) (hk2:k<256) (Q:World→Prop)
  (HD:Hid (∀ w1,Below w.heap.size w w1→DoesAt R c ns w1 fun e w'=>e=.returned (.tuple #[.slice none 0 0,.int .i64 (k:Int)])∧Q w')) :
  Calls Tryz.prog 37 #[.pointer (some ⟨R,0,none⟩),.string s] w fun e w'=>e=.returned (.string ⟨[UInt8.ofNat k].toArray⟩)∧∃ w2,Q w2∧Below w2.heap.size w2 w':=by
 have HC:=hide (command_ok s hs w c ns hc)
 have hbb:((k:Int) != 0)=true:=by rw [bne_iff_ne];omega
 generalize hm:ns.length=m at HC
 have HM:=hide hm
 clear hc hm
 go_enter Tryz.func37,Tryz.ntmps37
 go_wp2_with fail
 refine (HC.out).mono ?_
 rintro e w1 ⟨hb1,gn,cap,rfl,hns⟩
 have HD1:=hide (HD.out w1 hb1 gn cap hns)
 rw [HM.out] at HD1
 clear hns
 go_wp2_with fail
 refine (HD1.out).mono ?_
 rintro e w2 ⟨rfl,hq⟩
 have hcv:=conv1 w2 (k:Int) (by omega) (by omega) (0,0)
 go_wp2_with fail
 go_ret
 exact ⟨ret_strB (by simp),w2,hq,al1 w2 _⟩
set_option maxHeartbeats 800000 in
theorem hR_ask (w:World) (R:Nat) (s:ByteArray) (hs:s.size≤2097152) (c:Nat) (hc11:11≤c) (hc12:c≤12) (ns:List Nat) (hc:Pl.cmd s.data.toList=.ok (c,ns)) (rs:List Nat) (hrs:∀ n ∈ rs,n<9223372036854775808) (hrl:rs.length≤100)
  (HD:Hid (∀ w1,Below w.heap.size w w1→DoesAt R c ns w1 fun e w'=>Below w1.heap.size w1 w'∧∃ g,e=.returned (.tuple #[.slice (some ⟨g,0,none⟩) rs.length rs.length,.int .i64 0])∧w'.heap[g]?=some (.cells (I rs).toArray 3 (0,0)))) :
  Calls Tryz.prog 37 #[.pointer (some ⟨R,0,none⟩),.string s] w fun e w'=>e=.returned (.string ⟨(0 :: Pl.toldB rs).toArray⟩)∧Below w.heap.size w w':=by
 have HC:=hide (command_ok s hs w c ns hc)
 generalize hm:ns.length=m at HC
 have HM:=hide hm
 have hbd:=Pl.toldB_len rs hrs
 have HT:=hide (fun (b:Nat) (w:World) (hbw:b<w.heap.size) hc=>told_some b rs.length rs hrs (by omega) w hbw hc)
 have HCell:Hid (∀ (w:World) (g:Nat),w.heap[g]?=some (.cells (I rs).toArray 3 (0,0))→∀ j,j<rs.length→w.cell? ⟨g,j,none⟩=some (.int .i64 (rs.getD j 0:Nat))):=fun w g hg j hj=>by
  rw [blk_cell hg];simp [I,List.getD_eq_getElem?_getD,hj]
 obtain ⟨rl,HRL⟩:∃ rl,Hid (rl=rs.length):=⟨_,rfl⟩
 rw [← HRL.out] at HD HT hrl hbd
 clear hc hm hrs
 go_enter Tryz.func37,Tryz.ntmps37
 go_wp2_with fail
 refine (HC.out).mono ?_
 rintro e w1 ⟨hb1,gn,cap,rfl,hns⟩
 have HD1:=hide (HD.out w1 hb1 gn cap hns)
 rw [HM.out] at HD1
 clear hns
 go_wp2_with fail
 refine (HD1.out).mono ?_
 rintro e w2 ⟨hb2,g,rfl,hg⟩
 have HT2:=hide (HT.out g w2 (blk_lt hg) (by rw [HRL.out];exact HCell.out w2 g hg))
 clear hg
 go_wp2_with fail
 refine (HT2.out).mono ?_
 rintro e w3 ⟨rfl,hb3⟩
 go_wp2_with fail
 go_ret
 have hb12:=hb1.trans (hb2.mono hb1.size)
 exact ⟨ret_strB (ByteArray.mk_append_mk [0] (Pl.toldB rs)),hb12.trans (hb3.mono hb12.size)⟩
set_option maxHeartbeats 800000 in
theorem hR_log {rcs:List (Nat × Nat)} {Z:Nat→Prop} {os:List O} (w:World) (R td:Nat) (rec:ByteArray) (hrec:rec.size≤1000000000000000) (ls:List L) (s:ByteArray) (hs:s.size≤2097143) (c:Nat) (hc10:c≤10) (ns:List Nat) (hc:Pl.cmd s.data.toList=.ok (c,ns))
  (HD:Hid (∀ w1,Below w.heap.size w w1→DoesAt R c ns w1 fun e w'=>e=.returned (.tuple #[.slice none 0 0,.int .i64 0])∧Kp Z w1 w'∧RI os rcs (Zn Z w1) w' R td rec ls)) (hZ:Z R) :
  Calls Tryz.prog 37 #[.pointer (some ⟨R,0,none⟩),.string s] w fun e w'=>e=.returned (.string ⟨[0].toArray⟩)∧Kp Z w w'∧∃ rec',rec'=recF rec s∧RI os rcs (Zn Z w) w' R td rec' ls:=by
 have HC:=hide (command_ok s (by omega) w c ns hc)
 generalize hm:ns.length=m at HC
 have HM:=hide hm
 clear hc hm
 go_enter Tryz.func37,Tryz.ntmps37
 go_wp2_with fail
 refine (HC.out).mono ?_
 rintro e w1 ⟨hb1,gn,cap,rfl,hns⟩
 have HD1:=hide (HD.out w1 hb1 gn cap hns)
 rw [HM.out] at HD1
 clear hns
 go_wp2_with fail
 refine (HD1.out).mono ?_
 rintro e w2 ⟨rfl,hk,hri⟩
 go_wp2_with fail
 refine (frame_fx s hs w2).mono ?_
 rintro e w3 ⟨hb3,f,rfl,hf,hfe⟩
 have HFE:=hide hfe
 clear hfe
 obtain ⟨v,fs,ro,hrv,hz1,hz2,hz3⟩:=hri
 have hrv3:=hrv.below hb3
 have c4:=hrv3.c4
 have f4:=blk_free hrv3.store 4
 have HRV:=hide hrv3
 clear hrv hrv3
 go_wp2_with fail
 refine (told_nil _).mono ?_
 rintro e w4 ⟨rfl,rfl⟩
 go_wp2_with fail
 go_ret
 refine ⟨ret_strB (by simp [ByteArray.ext_iff]),?_,rec++f,?_,v,fs,ro,HRV.out.recs _,?_,?_,?_⟩
 ·exact (Kp.before hb1 ((hk.after hb3).mono (fun k h=>Or.inl h))).setCell (p:=⟨R,4,none⟩) (Or.inl hZ) _
 ·rw [HFE.out];rfl
 ·exact Or.inl hZ
 ·intro g hg
  rcases hz2 g hg with h | h
  ·exact Or.inl h
  ·exact Or.inr (Nat.le_trans hb1.size h)
 ·intro g hg
  rcases hz3 g hg with h | h
  ·exact Or.inl h
  ·exact Or.inr (Nat.le_trans hb1.size h)
end Go.Proofs.YtgcedalggnmooaaGreatDoor
namespace Go.Proofs.YtgcedalggnmooaaGreatDoor
open Go.RowKit
theorem hR_quiet {rcs:List (Nat × Nat)} {Z:Nat→Prop} {w w':World} {R td:Nat} {rec s:ByteArray} {rep:List UInt8} {ls:List L} {os:List O} (h:RI os rcs Z w R td rec ls) (hb:Below w.heap.size w w') (hx:RecX rec s rec rep):Kp Z w w'∧∃ rec',RecX rec s rec' rep∧RI os rcs (Zn Z w) w' R td rec' ls :=
 ⟨kpB hb,rec,hx,(h.below hb).mono (fun _ hk=>Or.inl hk)⟩
theorem handleR_any {rcs:List (Nat × Nat)} {Z:Nat→Prop} {w:World} {R td:Nat} {rec:ByteArray} {ls:List L} {os:List O} (h:RI os rcs Z w R td rec ls) (hrec:rec.size≤1000000000000000) (s:ByteArray) (hs:s.size≤2097143) (hp:Played (Pl.cmd s.data.toList)) :
  Calls Tryz.prog 37 #[.pointer (some ⟨R,0,none⟩),.string s] w fun e w'=>e=.returned (.string ⟨(stepS rcs td ls (Pl.cmd s.data.toList)).1.toArray⟩)∧Kp Z w w'∧∃ rec',RecX rec s rec' (stepS rcs td ls (Pl.cmd s.data.toList)).1∧RI os rcs (Zn Z w) w' R (stepS rcs td ls (Pl.cmd s.data.toList)).2.1 rec' (stepS rcs td ls (Pl.cmd s.data.toList)).2.2:=by
 have hcf:=cmd_form s.data.toList
 have hs':s.size≤2097152:=by omega
 have hZR:Z R:=by obtain ⟨v,fs,ro,_,hz,_⟩:=h;exact hz
 cases hform:formOf s.data.toList with
 | none =>
  rw [hform] at hcf
  rw [hcf]
  refine (hR_bad w R s hs' 1 (Or.inl rfl) hcf).mono ?_
  rintro e w' ⟨h1,h2⟩
  exact ⟨h1,hR_quiet h h2 (RecX.no1 (by show (UInt8.ofNat 1)≠0;decide))⟩
 | some p =>
  obtain ⟨c,ns⟩:=p
  rw [hform] at hcf
  obtain ⟨hc1,hc2,hlen,hlt⟩:=form_facts hform
  cases hm:Pl.mays (Pl.kindsL c) ns with
  | false =>
   simp only [hm,Bool.false_eq_true,if_false] at hcf
   rw [hcf]
   refine (hR_bad w R s hs' 2 (Or.inr rfl) hcf).mono ?_
   rintro e w' ⟨h1,h2⟩
   exact ⟨h1,hR_quiet h h2 (RecX.no1 (by show (UInt8.ofNat 2)≠0;decide))⟩
  | true =>
   simp only [hm,if_true] at hcf
   rcases hp c ns hcf with rfl | rfl | rfl | rfl
   ·obtain ⟨a,rfl⟩:=len1 hlen
    have hd:a≤2147483647:=by simp [Pl.mays,Pl.kindsL,Pl.mayB] at hm;omega
    rw [hcf]
    by_cases hlt':a<td
    ·simp only [stepS,if_pos hlt']
     refine (hR_err w R s hs' 1 [a] hcf 3 (by omega) (by omega) (fun w2=>Kp Z w w2∧RI os rcs (Zn Z w) w2 R td rec ls) (fun w1 hb1 gn cap hn=>?_)).mono ?_
     ·refine (doesR_day (h.below hb1) gn cap a hn hd).mono ?_
      rintro e w2 ⟨hk,⟨q1,q2,q3⟩ | ⟨q1,_⟩⟩
      ·exact ⟨q2,Kp.before hb1 (hk.mono (fun k h=>Or.inl h)),q3.mono (fun k hk=>hk.elim Or.inl (fun h=>Or.inr (Nat.le_trans hb1.size h)))⟩
      ·omega
     ·rintro e w' ⟨h1,w2,⟨q1,q2⟩,hb2⟩
      exact ⟨h1,q1.after hb2,rec,RecX.no1 (by show (UInt8.ofNat 3)≠0;decide),q2.below hb2⟩
    ·simp only [stepS,if_neg hlt']
     refine (hR_log (os:=os) (rcs:=rcs) w R a rec hrec ls s hs 1 (by omega) [a] hcf (fun w1 hb1 gn cap hn=>?_) hZR).mono ?_
     ·refine (doesR_day (h.below hb1) gn cap a hn hd).mono ?_
      rintro e w2 ⟨hk,⟨q1,_⟩ | ⟨q1,q2,q3⟩⟩
      ·omega
      ·exact ⟨q2,hk,q3⟩
     ·rintro e w' ⟨h1,h2,rec',h3,h4⟩
      exact ⟨h1,h2,rec',RecX.yes hcf (by omega) h3 hs rfl,h4⟩
   ·obtain ⟨a,b,c,d,rfl⟩:=len4 hlen
    have hd:a≤2147483647∧b≤2147483647∧c≤2147483647∧d≤2147483647:=by simp [Pl.mays,Pl.kindsL,Pl.mayB] at hm;omega
    have hrle:roomC ls a≤6:=by unfold roomC;split <;> (try split) <;> omega
    rw [hcf]
    simp only [stepS]
    by_cases hr:roomC ls a=0
    ·rw [hr]
     refine (hR_log (os:=os) (rcs:=rcs) w R td rec hrec (if 0=0 then ls++[newL ls a b c d] else ls) s hs 2 (by omega) [a,b,c,d] hcf (fun w1 hb1 gn cap hn=>?_) hZR).mono ?_
     ·refine (doesR_receive (h.below hb1) gn cap a b c d hn hd.1 hd.2.1 hd.2.2.1 hd.2.2.2).mono ?_
      rintro e w2 ⟨hk,q2,q3⟩
      rw [hr] at q2 q3
      exact ⟨q2,hk,q3⟩
     ·rintro e w' ⟨h1,h2,rec',h3,h4⟩
      exact ⟨h1,h2,rec',RecX.yes hcf (by omega) h3 hs rfl,h4⟩
    ·rw [if_neg hr]
     refine (hR_err w R s hs' 2 [a,b,c,d] hcf (roomC ls a) (by omega) (by omega) (fun w2=>Kp Z w w2∧RI os rcs (Zn Z w) w2 R td rec ls) (fun w1 hb1 gn cap hn=>?_)).mono ?_
     ·refine (doesR_receive (h.below hb1) gn cap a b c d hn hd.1 hd.2.1 hd.2.2.1 hd.2.2.2).mono ?_
      rintro e w2 ⟨hk,q2,q3⟩
      rw [if_neg hr] at q3
      exact ⟨q2,Kp.before hb1 (hk.mono (fun k h=>Or.inl h)),q3.mono (fun k hk=>hk.elim Or.inl (fun h=>Or.inr (Nat.le_trans hb1.size h)))⟩
     ·rintro e w' ⟨h1,w2,⟨q1,q2⟩,hb2⟩
      exact ⟨h1,q1.after hb2,rec,RecX.no1 (ofNat_ne0 hr (by omega)),q2.below hb2⟩
   ·obtain ⟨a,rfl⟩:=len1 hlen
    have hd:a≤2147483647:=by simp [Pl.mays,Pl.kindsL,Pl.mayB] at hm;omega
    rw [hcf]
    have h0:=h
    obtain ⟨v,fs,ro,hrv,_,_⟩:=h0
    by_cases hi:idx a ls<ls.length
    ·simp only [stepS,if_pos hi]
     have hl:=hrv.ok _ (mem_getD hi)
     refine (hR_ask w R s hs' 11 (by omega) (by omega) [a] hcf (lookL (recB rcs ls) (ls.getD (idx a ls) L0)) (by
      obtain ⟨q1,q2,q3,q4,q5,q6,_⟩:=hl
      simp only [lookL,List.mem_cons,List.not_mem_nil,or_false]
      rintro n (rfl | rfl | rfl | rfl | rfl | rfl | rfl | rfl | rfl | rfl) <;> (try split) <;> omega) (by simp [lookL]) (fun w1 hb1 gn cap hn=>doesR_lookhit (hrv.below hb1) gn cap a hn hd hi)).mono ?_
     rintro e w' ⟨h1,h2⟩
     exact ⟨h1,hR_quiet h h2 (RecX.no2 hcf (by omega))⟩
    ·simp only [stepS,if_neg hi]
     refine (hR_err w R s hs' 11 [a] hcf 4 (by omega) (by omega) (fun w2=>Below w.heap.size w w2) (fun w1 hb1 gn cap hn=>?_)).mono ?_
     ·refine (doesR_lookmiss (hrv.below hb1) gn cap a hn hd hi).mono ?_
      rintro e w2 ⟨rfl,q2⟩
      exact ⟨q2,hb1⟩
     ·rintro e w' ⟨h1,w2,q1,hb2⟩
      exact ⟨h1,hR_quiet h (q1.trans (hb2.mono q1.size)) (RecX.no2 hcf (by omega))⟩
   ·obtain ⟨a,b,rfl⟩:=len2 hlen
    have hd:a≤2147483647∧b≤2147483647:=by simp [Pl.mays,Pl.kindsL,Pl.mayB] at hm;omega
    rw [hcf]
    have h0:=h
    obtain ⟨v,fs,ro,hrv,_,_⟩:=h0
    simp only [stepS]
    refine (hR_ask w R s hs' 12 (by omega) (by omega) [a,b] hcf (supL rcs td a b ls) (by
     have h1:=srvI_len (rcs:=rcs) td a b ls ls.length
     have h2:=freeOf_le ls hrv.ok (srvI rcs td a b ls ls.length) (fun i hi=>srvI_lt hi)
     have h3:=hrv.room
     simp only [supL,List.mem_cons,List.not_mem_nil,or_false]
     rintro n (rfl | rfl)
     ·omega
     ·have:2147483647 * (srvI rcs td a b ls ls.length).length≤2147483647 * 30:=Nat.mul_le_mul_left _ (by omega)
      omega) (by simp [supL]) (fun w1 hb1 gn cap hn=>doesR_supply (hrv.below hb1) gn cap a b hn hd.1 hd.2)).mono ?_
    rintro e w' ⟨h1,h2⟩
    exact ⟨h1,hR_quiet h h2 (RecX.no2 hcf (by omega))⟩
end Go.Proofs.YtgcedalggnmooaaGreatDoor
