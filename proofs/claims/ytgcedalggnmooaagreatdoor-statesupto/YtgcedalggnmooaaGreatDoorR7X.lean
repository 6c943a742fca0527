import Derived.Test.YtgcedalggnmooaaGreatDoorR6X
import Derived.Deep.RegionHeld3
import Derived.Test.YtgcedalggnmooaaGreatDoorSt12X
set_option linter.unusedSimpArgs false
set_option linter.unusedVariables false
set_option maxRecDepth 100000
namespace Go.Proofs.YtgcedalggnmooaaGreatDoor
open Go.RowKit
theorem RV.apart {rcs:List (Nat × Nat)} {w:World} {R:Nat} {v:Value} {td:Nat} {rec:ByteArray} {fs:List Value} {ls:List L} {os:List O} {ro:Ro} (h:RV os rcs ro w R v td rec fs ls) {b:Nat} {cs:Array Value} {t:TypeId} (hb:w.heap[b]?=some (.cells cs t (0,0))) (h1:t≠42) (h2:t≠129):¬ (b=R∨v.ownBlock=some b):=by
 rintro (e | e)
 ·exact ty_ne hb h.store h1 e
 ·obtain ⟨cs',hc⟩:=own_ty h.row e
  exact ty_ne hb hc h2 rfl
theorem RV.apart2 {rcs:List (Nat × Nat)} {w:World} {R:Nat} {v:Value} {td:Nat} {rec:ByteArray} {fs:List Value} {ls:List L} {os:List O} {ro:Ro} (h:RV os rcs ro w R v td rec fs ls) {b:Nat} {cs:Array Value} {t:TypeId} (hb:w.heap[b]?=some (.cells cs t (0,0))) (h2:t≠129):¬ (v.ownBlock=some b):=by
 intro e
 obtain ⟨cs',hc⟩:=own_ty h.row e
 exact ty_ne hb hc h2 rfl
set_option maxHeartbeats 1600000 in
theorem splitR_no {rcs:List (Nat × Nat)} {w:World} {R td:Nat} {v:Value} {fs:List Value} {rec:ByteArray} {ls:List L} {os:List O} {ro:Ro} (hP:RV os rcs ro w R v td rec fs ls) (gn cap0:Nat) (n m c:Nat) (hns:NS w gn [n,m,c]) (h1:n≤2147483647) (h2:m≤2147483647) (h3:c≤2147483647) (hc0:splitC ls n m c≠0) :
  Calls Tryz.prog 68 #[.pointer (some ⟨R,0,none⟩),.int .i64 3,.slice (some ⟨gn,0,none⟩) 3 cap0] w fun e w'=>e=.returned (.int .i64 (splitC ls n m c:Int))∧Below w.heap.size w w':=by
 obtain ⟨⟨cs,hcs⟩,hcl⟩:=hns
 have n0:w.cell? ⟨gn,0,none⟩=some (.int .i64 (n:Int)):=hcl 0 (by simp)
 have n1:w.cell? ⟨gn,1,none⟩=some (.int .i64 (m:Int)):=hcl 1 (by simp)
 have n2:w.cell? ⟨gn,2,none⟩=some (.int .i64 (c:Int)):=hcl 2 (by simp)
 have HA:=hide (at_any hP n h1)
 have HM:=hide (roomR_any hP m h2)
 have hrle:=roomC_le ls m
 by_cases hi:idx n ls<ls.length
 ·have HV0:Hid (atV ls n=(idx n ls:Int)):=by unfold Hid atV;rw [if_pos hi]
  rw [HV0.out] at HA
  by_cases hr:roomC ls m=0
  ·have hs:(ls.getD (idx n ls) L0).free<c:=by
    unfold splitC at hc0
    rw [if_pos hi,if_pos hr] at hc0
    by_cases hq:(ls.getD (idx n ls) L0).free<c
    ·exact hq
    ·rw [if_neg hq] at hc0;exact absurd rfl hc0
   have HC:Hid (splitC ls n m c=7):=by unfold Hid splitC;rw [if_pos hi,if_pos hr,if_pos hs]
   rw [HC.out]
   rw [hr] at HM
   obtain ⟨a,cap,hv,hrow⟩:=hP.shape
   obtain ⟨G,hG,hGlt,hcells⟩:=hrow (by omega)
   subst hG
   have c1:=hP.c1
   rw [hv] at c1
   have hroom:=hP.room
   have hok:=hP.ok _ (mem_getD hi)
   have hsum:=hok.sum
   obtain ⟨i,HI0⟩:∃ i,Hid (i=idx n ls):=⟨_,rfl⟩
   rw [← HI0.out] at HA hi hok hsum hs
   have c5:w.cell? ⟨G,i * 11+5,none⟩=some (.int .i64 ((ls.getD i L0).free:Int)):=hcells i hi 5 (by omega)
   generalize ls.getD i L0=l at *
   have hfr:l.free≤2147483647:=by omega
   obtain ⟨len,HN⟩:∃ len,Hid (len=ls.length):=⟨_,rfl⟩
   rw [← HN.out] at c1 hi hroom
   clear hP hv hcells hrow hok hsum hcs hcl HC HV0 hr hrle hc0
   go_enter Tryz.func68,Tryz.ntmps68
   go_wp2_with (first
    | (go_at_call 111;refine (HA.out).mono ?_;rintro e w1 ⟨rfl,rfl⟩)
    | (go_at_call 109;refine (HM.out).mono ?_;rintro e w1 ⟨rfl,rfl⟩))
   go_region
   go_wp2_with fail
   go_ret
   exact ⟨rfl,drewB _⟩
  ·have HC:Hid (splitC ls n m c=roomC ls m):=by unfold Hid splitC;rw [if_pos hi,if_neg hr]
   rw [HC.out]
   have hrb:((roomC ls m:Int) != 0)=true:=by rw [bne_iff_ne];omega
   have hroom:=hP.room
   generalize roomC ls m=rc at *
   generalize idx n ls=i at *
   obtain ⟨len,HN⟩:∃ len,Hid (len=ls.length):=⟨_,rfl⟩
   rw [← HN.out] at hi hroom
   clear hP hcs hcl HC HV0 hr hc0
   go_enter Tryz.func68,Tryz.ntmps68
   go_wp2_with (first
    | (go_at_call 111;refine (HA.out).mono ?_;rintro e w1 ⟨rfl,rfl⟩)
    | (go_at_call 109;refine (HM.out).mono ?_;rintro e w1 ⟨rfl,rfl⟩))
   go_ret
   exact ⟨rfl,Below.refl _ _⟩
 ·have HV0:Hid (atV ls n=-1):=by unfold Hid atV;rw [if_neg hi]
  have HC:Hid (splitC ls n m c=4):=by unfold Hid splitC;rw [if_neg hi]
  rw [HV0.out] at HA
  rw [HC.out]
  clear hP hi HV0 HC hcs hcl hrle hc0
  go_enter Tryz.func68,Tryz.ntmps68
  go_wp2_with (go_at_call 111;refine (HA.out).mono ?_;rintro e w1 ⟨rfl,rfl⟩)
  go_ret
  exact ⟨rfl,Below.refl _ _⟩
set_option maxHeartbeats 3200000 in
theorem splitR_yes {rcs:List (Nat × Nat)} {Z:Nat→Prop} {w:World} {R td:Nat} {v:Value} {fs:List Value} {rec:ByteArray} {ls:List L} {os:List O} {ro:Ro} (hP:RV os rcs ro w R v td rec fs ls) (hZ:Z R) (hZv:∀ g,v.ownBlock=some g→Z g) (hZo:∀ g,OB ro g→Z g) (gn cap0:Nat) (n m c:Nat) (hns:NS w gn [n,m,c]) (h1:n≤2147483647) (h2:m≤2147483647) (h3:c≤2147483647)
  (hi:idx n ls<ls.length) (hr:roomC ls m=0) (hs:¬ (ls.getD (idx n ls) L0).free<c) :
  Calls Tryz.prog 68 #[.pointer (some ⟨R,0,none⟩),.int .i64 3,.slice (some ⟨gn,0,none⟩) 3 cap0] w fun e w'=>Kp Z w w'∧e=.returned (.int .i64 0) ∧
   RI os rcs (Zn Z w) w' R td rec (ls.set (idx n ls) (gaveL (ls.getD (idx n ls) L0) c)++[mkL ls m (ls.getD (idx n ls) L0).goods (ls.getD (idx n ls) L0).expiry c [((ls.getD (idx n ls) L0).id,c)]]):=by
 obtain ⟨⟨cs,hcs⟩,hcl⟩:=hns
 have n0:w.cell? ⟨gn,0,none⟩=some (.int .i64 (n:Int)):=hcl 0 (by simp)
 have n1:w.cell? ⟨gn,1,none⟩=some (.int .i64 (m:Int)):=hcl 1 (by simp)
 have n2:w.cell? ⟨gn,2,none⟩=some (.int .i64 (c:Int)):=hcl 2 (by simp)
 have hgn:=blk_lt hcs
 have HA:=hide (at_any hP n h1)
 have HM:=hide (roomR_any hP m h2)
 rw [hr] at HM
 have hl30:=roomC_len hr
 have HV0:Hid (atV ls n=(idx n ls:Int)):=by unfold Hid atV;rw [if_pos hi]
 rw [HV0.out] at HA
 obtain ⟨a,cap,hv,hrow⟩:=hP.shape
 obtain ⟨G,hG,hGlt,hcells⟩:=hrow (by omega)
 subst hG
 have c1:=hP.c1
 rw [hv] at c1
 have hroom:=hP.room
 have hok:=hP.ok _ (mem_getD hi)
 have hsum:=hok.sum
 obtain ⟨i,HI0⟩:∃ i,Hid (i=idx n ls):=⟨_,rfl⟩
 rw [← HI0.out] at HA hi hok hsum hs ⊢
 have c5:w.cell? ⟨G,i * 11+5,none⟩=some (.int .i64 ((ls.getD i L0).free:Int)):=hcells i hi 5 (by omega)
 have hgo:=hok.goods
 have hex:=hok.expiry
 have HIN:Hid ((ls.getD i L0).id=n):=by rw [HI0.out] at hi ⊢;exact idx_id hi
 have HIDS:∀ k,((ls.set i (gaveL (ls.getD i L0) c)).getD k L0).id=(ls.getD k L0).id:=fun k=>by
  by_cases hk:k=i
  ·subst hk;rw [gset_eq hi];rfl
  ·rw [gset_ne hk]
 have HG:=hide ((givesR_any (hP.below (drewB w)) i c hi (by omega)).mono (fun e w' hh=>by
  have hP2:=hh.2.2
  have hgn2:w'.heap[gn]?=some (.cells cs 3 (0,0)):=(hh.2.1.block gn hgn (hP.apart2 hcs (by decide))).trans hcs
  obtain ⟨a2,cap2,hv2,hrow2⟩:=hP2.shape
  rw [List.length_set] at hv2 hrow2
  rw [hv] at hv2
  cases hv2
  obtain ⟨G2,hG2,_,hcells2⟩:=hrow2 (by omega)
  cases hG2
  have q1:=hP2.c1
  rw [hv] at q1
  have q2:=hcells2 i hi 1 (by omega)
  have q3:=hcells2 i hi 2 (by omega)
  have eset:(ls.set i (gaveL (ls.getD i L0) c)).getD i L0=gaveL (ls.getD i L0) c:=by simp [List.getD_eq_getElem?_getD,List.getElem?_set,hi]
  rw [eset] at q2 q3
  have m0:w'.cell? ⟨gn,0,none⟩=some (.int .i64 (n:Int)):=by rw [blk_cell hgn2,← blk_cell hcs];exact n0
  have m1:w'.cell? ⟨gn,1,none⟩=some (.int .i64 (m:Int)):=by rw [blk_cell hgn2,← blk_cell hcs];exact n1
  have m2:w'.cell? ⟨gn,2,none⟩=some (.int .i64 (c:Int)):=by rw [blk_cell hgn2,← blk_cell hcs];exact n2
  have hba:=(al1 w' (Obj.cells #[.int .i64 (n:Int),.int .i64 (c:Int)] 181)).drew
  have hPa:=hP2.below hba
  have hgna:=(hba.block _ (blk_lt hgn2)).trans hgn2
  have ap:=hPa.apart hgna (by decide) (by decide)
  have e0:(w'.alloc (Obj.cells #[.int .i64 (n:Int),.int .i64 (c:Int)] 181)).drew.cell? ⟨gn,0,none⟩=some (.int .i64 (n:Int)):=by rw [blk_cell hgna,← blk_cell hcs];exact n0
  have e1:(w'.alloc (Obj.cells #[.int .i64 (n:Int),.int .i64 (c:Int)] 181)).drew.cell? ⟨gn,1,none⟩=some (.int .i64 (m:Int)):=by rw [blk_cell hgna,← blk_cell hcs];exact n1
  have e2:(w'.alloc (Obj.cells #[.int .i64 (n:Int),.int .i64 (c:Int)] 181)).drew.cell? ⟨gn,2,none⟩=some (.int .i64 (c:Int)):=by rw [blk_cell hgna,← blk_cell hcs];exact n2
  have HADD:=hide ((addR_any hPa m (ls.getD i L0).goods (ls.getD i L0).expiry c (some ⟨w'.heap.size,0,none⟩) 1 1 [(n,c)] (Or.inr ⟨_,_,_,rfl,heap_alloc_new w' _,fun j hj=>by obtain rfl:j=0:=(by simp [dpar] at hj;omega);exact ⟨rfl,rfl⟩⟩) (fun g hg e=>by cases hg;exact absurd (hP2.ord.lt (Or.inr (Or.inr (Or.inl e)))) (Nat.lt_irrefl _)) ⟨by simp,by simp;exact h1⟩ (hP2.fam.snoc (by rw [List.length_set];intro k hk;rw [HIDS k];exact room_fresh hr k hk) (fun p hp=>by simp at hp;subst hp;exact ⟨i,by rw [List.length_set];exact hi,by rw [HIDS i];exact HIN.out⟩)) (by rw [List.length_set];exact hl30) h2 hgo hex h3).mono (fun e w'' hx=>(⟨hx.1,hide hx.2,hx.2.1.cell ap (blk_lt hgna) e0,hx.2.1.cell ap (blk_lt hgna) e1,hx.2.1.cell ap (blk_lt hgna) e2⟩:_∧Hid _∧_∧_∧_)))
  exact (⟨hh.1,hide hh.2,HADD,m0,m1,m2,q1,q2,q3,blk_lt hgn2,blk_lt hP2.store,Nat.lt_of_lt_of_le hGlt hh.2.1.size,hide hh.2.1.size⟩:_∧Hid _∧_∧_∧_∧_∧_∧(_:Option Value)=some (.int .i64 ((ls.getD i L0).goods:Int))∧(_:Option Value)=some (.int .i64 ((ls.getD i L0).expiry:Int))∧_∧R<w'.heap.size∧G<w'.heap.size∧_)))
 rw [HIN.out]
 clear HIDS HIN
 generalize hl:ls.getD i L0=l at *
 have hfr:l.free≤2147483647:=by omega
 obtain ⟨len,HN⟩:∃ len,Hid (len=ls.length):=⟨_,rfl⟩
 rw [← HN.out] at c1 hi hroom HG
 have HZ:=hide hZ
 have HZv:=hide hZv
 have HZo:=hide hZo
 clear hP hv hcells hrow hok hsum hcs hcl HV0 hr hl hZ hZv hZo
 go_enter Tryz.func68,Tryz.ntmps68
 go_wp2_with (first
  | (go_at_call 111;refine (HA.out).mono ?_;rintro e w1 ⟨rfl,rfl⟩)
  | (go_at_call 109;refine (HM.out).mono ?_;rintro e w1 ⟨rfl,rfl⟩))
 go_region
 go_wp2_with (go_at_call 113;refine (HG.out).mono ?_;rintro e w2 ⟨rfl,hh2,HADD,m0,m1,m2,q1,q2,q3,hg2,hR2,hG2,hsz2⟩)
 clear n0 n1 n2 c1 c5
 obtain ⟨S0,hS0⟩:∃ S0:World→Prop,∀ w',S0 w'↔(w'.cell? ⟨gn,0,none⟩=some (.int .i64 (n:Int))∧w'.cell? ⟨gn,1,none⟩=some (.int .i64 (m:Int))∧w'.cell? ⟨gn,2,none⟩=some (.int .i64 (c:Int))∧w'.cell? ⟨R,1,none⟩=some (.slice (some ⟨G,0,none⟩) len cap)∧w'.cell? ⟨G,i * 11+1,none⟩=some (.int .i64 (l.goods:Int))∧w'.cell? ⟨G,i * 11+2,none⟩=some (.int .i64 (l.expiry:Int))):=⟨_,fun _=>Iff.rfl⟩
 have x0:∀ x:Wd S0,x.w.cell? ⟨gn,0,none⟩=some (.int .i64 (n:Int)):=fun x=>((hS0 _).1 x.h).1
 have x1:∀ x:Wd S0,x.w.cell? ⟨gn,1,none⟩=some (.int .i64 (m:Int)):=fun x=>((hS0 _).1 x.h).2.1
 have x2:∀ x:Wd S0,x.w.cell? ⟨gn,2,none⟩=some (.int .i64 (c:Int)):=fun x=>((hS0 _).1 x.h).2.2.1
 have x3:∀ x:Wd S0,x.w.cell? ⟨R,1,none⟩=some (.slice (some ⟨G,0,none⟩) len cap):=fun x=>((hS0 _).1 x.h).2.2.2.1
 have x4:∀ x:Wd S0,x.w.cell? ⟨G,i * 11+1,none⟩=some (.int .i64 (l.goods:Int)):=fun x=>((hS0 _).1 x.h).2.2.2.2.1
 have x5:∀ x:Wd S0,x.w.cell? ⟨G,i * 11+2,none⟩=some (.int .i64 (l.expiry:Int)):=fun x=>((hS0 _).1 x.h).2.2.2.2.2
 have hS2:S0 w2.drew:=(hS0 _).2 ⟨m0,m1,m2,q1,q2,q3⟩
 have hba:=(al1 w2 (Obj.cells #[.int .i64 (n:Int),.int .i64 (c:Int)] 181)).drew
 have hS3:S0 (w2.alloc (Obj.cells #[.int .i64 (n:Int),.int .i64 (c:Int)] 181)).drew:=by
  exact (hS0 _).2 ⟨(hba.cell hg2).trans m0,(hba.cell hg2).trans m1,(hba.cell hg2).trans m2,(hba.cell hR2).trans q1,(hba.cell hG2).trans q2,(hba.cell hG2).trans q3⟩
 have HS3:=hide hS3
 have HS0:=hide hS0
 clear hS0 hS3 hba m0 m1 m2 q1 q2 q3
 haveI hinh:Inhabited (Wd S0):=⟨⟨_,hS2⟩⟩
 refine wp_region_lit (n:=8) (m:=2) 30 31 (fun w'=>∃ x:Wd S0,w'=x.w) (by kernel_rfl) (by kernel_rfl) (fun _ _ d _ _ h=>by cases d <;> exact h) (by kernel_rfl) (by kernel_rfl) rfl rfl ⟨⟨_,hS2⟩,rfl⟩ ?_
 clear hS2
 dsimp only [List.take]
 repeat (go_big_quiet_step (fail))
 refine wpQuiet_nil ?_
 refine wpN_one (i:=30) (by kernel_rfl) rfl rfl (fun K hK=>?_)
 go_wp2_with fail
 refine hK _ _ (Or.inr ⟨⟨_,HS3.out⟩,rfl⟩) ?_
 refine wpN_one (i:=31) (by kernel_rfl) rfl rfl (fun K hK=>?_)
 go_wp2_with (first
   | (go_at_call 110;refine (HADD.out).mono ?_;rintro e w3 ⟨rfl,hh3,r0,r1,r2⟩))
 refine hK _ _ (by first | exact Or.inl rfl | exact Or.inl trivial | trivial) ?_
 refine wpN_done (by kernel_rfl) ?_
 clear hK x0 x1 x2 x3 x4 x5
 go_wp2_with fail
 go_ret
 obtain ⟨hk3,v',hrv,hat⟩:=hh3.out
 have hk2:=hh2.out.1
 have hsz:=hsz2.out
 refine ⟨?_,rfl,v',_,_,(by rw [List.length_set] at hrv;exact hrv),Or.inl HZ.out,fun g hg=>?_,fun g hg=>(OB_lot hg).elim (fun h=>Or.inl (HZo.out g h)) (fun h=>by cases h;right;refine Nat.le_trans ?_ (Nat.le_refl w2.heap.size);simp at hsz;omega)⟩
 ·refine (Kp.before (drewB _) (hk2.mono (fun k hq=>Or.inl (HZv.out k hq)))).trans ?_
  exact Kp.before (al1 _ _).drew (hk3.mono (fun k hq=>Or.inl (Or.inl (hq.elim (fun e=>e ▸ HZ.out) (fun e=>HZv.out k e)))))
 ·rcases hat g hg with h | h
  ·exact Or.inl (HZv.out g h)
  ·right;simp at h hsz;omega
theorem splitR_any {rcs:List (Nat × Nat)} {Z:Nat→Prop} {w:World} {R td:Nat} {rec:ByteArray} {ls:List L} {os:List O} (h:RI os rcs Z w R td rec ls) (gn cap0:Nat) (n m c:Nat) (hns:NS w gn [n,m,c]) (h1:n≤2147483647) (h2:m≤2147483647) (h3:c≤2147483647) :
  Calls Tryz.prog 68 #[.pointer (some ⟨R,0,none⟩),.int .i64 3,.slice (some ⟨gn,0,none⟩) 3 cap0] w fun e w'=>Kp Z w w'∧e=.returned (.int .i64 (splitC ls n m c:Int))∧RI os rcs (Zn Z w) w' R td rec (splitS ls n m c):=by
 obtain ⟨v,fs,ro,hP,hZ,hZv,hZo⟩:=h
 by_cases hc:splitC ls n m c=0
 ·have hx:idx n ls<ls.length∧roomC ls m=0∧¬ (ls.getD (idx n ls) L0).free<c:=by
   unfold splitC at hc
   by_cases hi:idx n ls<ls.length
   ·rw [if_pos hi] at hc
    by_cases hr:roomC ls m=0
    ·rw [if_pos hr] at hc
     refine ⟨hi,hr,fun hq=>?_⟩
     rw [if_pos hq] at hc;omega
    ·rw [if_neg hr] at hc;exact absurd hc hr
   ·rw [if_neg hi] at hc;omega
  have hS:splitS ls n m c=_:=if_pos hc
  rw [hc,hS]
  exact splitR_yes hP hZ hZv hZo gn cap0 n m c hns h1 h2 h3 hx.1 hx.2.1 hx.2.2
 ·have hS:splitS ls n m c=ls:=if_neg hc
  rw [hS]
  exact (splitR_no hP gn cap0 n m c hns h1 h2 h3 hc).mono fun e w' ⟨he,hb⟩=>⟨kpB hb,he,v,fs,ro,hP.below hb,Or.inl hZ,fun g hg=>Or.inl (hZv g hg),fun g hg=>Or.inl (hZo g hg)⟩
end Go.Proofs.YtgcedalggnmooaaGreatDoor
namespace Go.Proofs.YtgcedalggnmooaaGreatDoor
open Go.RowKit
set_option maxHeartbeats 1600000 in
theorem mergeR_none {rcs:List (Nat × Nat)} {w:World} {R td:Nat} {v:Value} {fs:List Value} {rec:ByteArray} {ls:List L} {os:List O} {ro:Ro} (hP:RV os rcs ro w R v td rec fs ls) (gn cap0:Nat) (a b m:Nat) (hns:NS w gn [a,b,m]) (h2:b≤2147483647) (i:Nat) (hi:i<ls.length) (hj:¬ idx b ls<ls.length) :
  Calls Tryz.prog 112 #[.pointer (some ⟨R,0,none⟩),.int .i64 (i:Int),.slice (some ⟨gn,0,none⟩) 3 cap0] w fun e w'=>e=.returned (.int .i64 4)∧Below w.heap.size w w':=by
 have n1:w.cell? ⟨gn,1,none⟩=some (.int .i64 (b:Int)):=hns.2 1 (by simp)
 have HB:=hide (at_any hP b h2)
 have HV0:Hid (atV ls b=-1):=by unfold Hid atV;rw [if_neg hj]
 rw [HV0.out] at HB
 have hroom:=hP.room
 obtain ⟨len,HN⟩:∃ len,Hid (len=ls.length):=⟨_,rfl⟩
 rw [← HN.out] at hi hroom
 clear hP hns HV0 hj
 go_enter Tryz.func112,Tryz.ntmps112
 go_wp2_with (go_at_call 111;refine (HB.out).mono ?_;rintro e w1 ⟨rfl,rfl⟩)
 go_ret
 exact ⟨rfl,Below.refl _ _⟩
set_option maxHeartbeats 1600000 in
theorem mergeR_goods {rcs:List (Nat × Nat)} {w:World} {R td:Nat} {v:Value} {fs:List Value} {rec:ByteArray} {ls:List L} {os:List O} {ro:Ro} (hP:RV os rcs ro w R v td rec fs ls) (gn cap0:Nat) (a b m:Nat) (hns:NS w gn [a,b,m]) (h2:b≤2147483647) (i:Nat) (hi:i<ls.length) (hj:idx b ls<ls.length)
  (hx:i=idx b ls∨(ls.getD i L0).goods≠(ls.getD (idx b ls) L0).goods) :
  Calls Tryz.prog 112 #[.pointer (some ⟨R,0,none⟩),.int .i64 (i:Int),.slice (some ⟨gn,0,none⟩) 3 cap0] w fun e w'=>e=.returned (.int .i64 8)∧Below w.heap.size w w':=by
 have n1:w.cell? ⟨gn,1,none⟩=some (.int .i64 (b:Int)):=hns.2 1 (by simp)
 have HB:=hide (at_any hP b h2)
 have HV0:Hid (atV ls b=(idx b ls:Int)):=by unfold Hid atV;rw [if_pos hj]
 rw [HV0.out] at HB
 have hroom:=hP.room
 obtain ⟨av,cap,hv,hrow⟩:=hP.shape
 obtain ⟨G,hG,hGlt,hcells⟩:=hrow (by omega)
 subst hG
 have c1:=hP.c1
 rw [hv] at c1
 have hoka:=hP.ok _ (mem_getD hi)
 have hokb:=hP.ok _ (mem_getD hj)
 obtain ⟨j,HJ⟩:∃ j,Hid (j=idx b ls):=⟨_,rfl⟩
 rw [← HJ.out] at HB hj hx hokb
 have ca:w.cell? ⟨G,i * 11+1,none⟩=some (.int .i64 ((ls.getD i L0).goods:Int)):=hcells i hi 1 (by omega)
 have cb:w.cell? ⟨G,j * 11+1,none⟩=some (.int .i64 ((ls.getD j L0).goods:Int)):=hcells j hj 1 (by omega)
 generalize ls.getD i L0=la at *
 generalize ls.getD j L0=lb at *
 have hga:=hoka.goods
 have hgb:=hokb.goods
 obtain ⟨len,HN⟩:∃ len,Hid (len=ls.length):=⟨_,rfl⟩
 rw [← HN.out] at hi hj hroom c1
 clear hP hns HV0 hv hcells hrow hoka hokb
 by_cases he:i=j
 ·subst he
  clear hx
  go_enter Tryz.func112,Tryz.ntmps112
  go_wp2_with (go_at_call 111;refine (HB.out).mono ?_;rintro e w1 ⟨rfl,rfl⟩)
  go_region
  go_wp2_with fail
  go_ret
  exact ⟨rfl,drewB _⟩
 ·have hg:=bneN_t (hx.resolve_left he)
  have hij:=beqN_f he
  clear hx
  go_enter Tryz.func112,Tryz.ntmps112
  go_wp2_with (go_at_call 111;refine (HB.out).mono ?_;rintro e w1 ⟨rfl,rfl⟩)
  go_region
  go_wp2_with fail
  go_ret
  exact ⟨rfl,drewB _⟩
set_option maxHeartbeats 3200000 in
theorem mergeR_late {rcs:List (Nat × Nat)} {w:World} {R td:Nat} {v:Value} {fs:List Value} {rec:ByteArray} {ls:List L} {os:List O} {ro:Ro} (hP:RV os rcs ro w R v td rec fs ls) (gn cap0:Nat) (a b m:Nat) (hns:NS w gn [a,b,m]) (h2:b≤2147483647) (h3:m≤2147483647) (i:Nat) (hi:i<ls.length) (hj:idx b ls<ls.length)
  (he:i≠idx b ls) (hg:(ls.getD i L0).goods=(ls.getD (idx b ls) L0).goods) (rc:Nat) (hrc:0<rc)
  (hx:(roomC ls m≠0∧rc=roomC ls m)∨(roomC ls m=0∧(ls.getD i L0).free+(ls.getD (idx b ls) L0).free=0∧rc=7)∨(roomC ls m=0∧2147483647<(ls.getD i L0).free+(ls.getD (idx b ls) L0).free∧rc=2)) :
  Calls Tryz.prog 112 #[.pointer (some ⟨R,0,none⟩),.int .i64 (i:Int),.slice (some ⟨gn,0,none⟩) 3 cap0] w fun e w'=>e=.returned (.int .i64 (rc:Int))∧Below w.heap.size w w':=by
 have n1:w.cell? ⟨gn,1,none⟩=some (.int .i64 (b:Int)):=hns.2 1 (by simp)
 have n2:w.cell? ⟨gn,2,none⟩=some (.int .i64 (m:Int)):=hns.2 2 (by simp)
 have HB:=hide (at_any hP b h2)
 have HM:=hide (roomR_any (hP.below (drewB w)) m h3)
 have hrle:=roomC_le ls m
 have HV0:Hid (atV ls b=(idx b ls:Int)):=by unfold Hid atV;rw [if_pos hj]
 rw [HV0.out] at HB
 have hroom:=hP.room
 obtain ⟨av,cap,hv,hrow⟩:=hP.shape
 obtain ⟨G,hG,hGlt,hcells⟩:=hrow (by omega)
 subst hG
 have c1:=hP.c1
 rw [hv] at c1
 have hoka:=hP.ok _ (mem_getD hi)
 have hokb:=hP.ok _ (mem_getD hj)
 obtain ⟨j,HJ⟩:∃ j,Hid (j=idx b ls):=⟨_,rfl⟩
 rw [← HJ.out] at HB hj hx hokb he hg
 have ca:w.cell? ⟨G,i * 11+1,none⟩=some (.int .i64 ((ls.getD i L0).goods:Int)):=hcells i hi 1 (by omega)
 have cb:w.cell? ⟨G,j * 11+1,none⟩=some (.int .i64 ((ls.getD j L0).goods:Int)):=hcells j hj 1 (by omega)
 have ca5:w.cell? ⟨G,i * 11+5,none⟩=some (.int .i64 ((ls.getD i L0).free:Int)):=hcells i hi 5 (by omega)
 have cb5:w.cell? ⟨G,j * 11+5,none⟩=some (.int .i64 ((ls.getD j L0).free:Int)):=hcells j hj 5 (by omega)
 generalize ls.getD i L0=la at *
 generalize ls.getD j L0=lb at *
 have hga:=hoka.goods
 have hgb:=hokb.goods
 have hfa:la.free≤2147483647:=by have:=hoka.sum;omega
 have hfb:lb.free≤2147483647:=by have:=hokb.sum;omega
 have hg':=bneN_f hg
 have hij:=beqN_f he
 obtain ⟨len,HN⟩:∃ len,Hid (len=ls.length):=⟨_,rfl⟩
 rw [← HN.out] at hi hj hroom c1
 generalize roomC ls m=r at *
 clear hP hns HV0 hv hcells hrow hoka hokb hg
 rcases hx with ⟨hr,rfl⟩ | ⟨rfl,hz,rfl⟩ | ⟨rfl,hz,rfl⟩
 ·have hrb:((rc:Int) != 0)=true:=by rw [bne_iff_ne];omega
  go_enter Tryz.func112,Tryz.ntmps112
  go_wp2_with (go_at_call 111;refine (HB.out).mono ?_;rintro e w1 ⟨rfl,rfl⟩)
  go_region
  go_wp2_with (go_at_call 109;refine (HM.out).mono ?_;rintro e w1 ⟨rfl,rfl⟩)
  go_ret
  exact ⟨rfl,drewB _⟩
 ·have hzb:(((la.free:Int)+(lb.free:Int)) == 0)=true:=by rw [beq_iff_eq];omega
  go_enter Tryz.func112,Tryz.ntmps112
  go_wp2_with (go_at_call 111;refine (HB.out).mono ?_;rintro e w1 ⟨rfl,rfl⟩)
  go_region
  go_wp2_with (go_at_call 109;refine (HM.out).mono ?_;rintro e w1 ⟨rfl,rfl⟩)
  go_ret
  exact ⟨rfl,drewB _⟩
 ·have hzb:(((la.free:Int)+(lb.free:Int)) == 0)=false:=by rw [beq_eq_false_iff_ne];omega
  go_enter Tryz.func112,Tryz.ntmps112
  go_wp2_with (go_at_call 111;refine (HB.out).mono ?_;rintro e w1 ⟨rfl,rfl⟩)
  go_region
  go_wp2_with (go_at_call 109;refine (HM.out).mono ?_;rintro e w1 ⟨rfl,rfl⟩)
  go_ret
  exact ⟨rfl,drewB _⟩
end Go.Proofs.YtgcedalggnmooaaGreatDoor
