import Derived.Test.YtgcedalggnmooaaGreatDoorR7X
import Derived.Test.YtgcedalggnmooaaGreatDoorSt15X
set_option linter.unusedSimpArgs false
set_option linter.unusedVariables false
set_option maxRecDepth 100000
namespace Go.Proofs.YtgcedalggnmooaaGreatDoor
open Go.RowKit
set_option maxHeartbeats 3200000 in
theorem mergeR_yes1 {rcs:List (Nat × Nat)} {Z:Nat→Prop} {w:World} {R td:Nat} {v:Value} {fs:List Value} {rec:ByteArray} {ls:List L} {os:List O} {ro:Ro} (hP:RV os rcs ro w R v td rec fs ls) (hZ:Z R) (hZv:∀ g,v.ownBlock=some g→Z g) (hZo:∀ g,OB ro g→Z g) (gn cap0:Nat) (a b m:Nat) (hns:NS w gn [a,b,m]) (h1:a≤2147483647) (h2:b≤2147483647) (h3:m≤2147483647)
  (hi:idx a ls<ls.length) (hj:idx b ls<ls.length) (he:idx a ls≠idx b ls) (hg:(lotAt ls a).goods=(lotAt ls b).goods) (hr:roomC ls m=0) (hz:(lotAt ls a).free+(lotAt ls b).free≠0) (hz2:(lotAt ls a).free+(lotAt ls b).free≤2147483647) (hmm:(lotAt ls b).expiry<(lotAt ls a).expiry) (hba:b<a) :
  Calls Tryz.prog 112 #[.pointer (some ⟨R,0,none⟩),.int .i64 (idx a ls:Int),.slice (some ⟨gn,0,none⟩) 3 cap0] w fun e w'=>Kp Z w w'∧e=.returned (.int .i64 0) ∧
   RI os rcs (Zn Z w) w' R td rec ((ls.set (idx a ls) (gaveL (lotAt ls a) (lotAt ls a).free)).set (idx b ls) (gaveL (lotAt ls b) (lotAt ls b).free)++[mkL ls m (lotAt ls a).goods (min (lotAt ls a).expiry (lotAt ls b).expiry) ((lotAt ls a).free+(lotAt ls b).free) [((lotAt ls a).id,(lotAt ls a).free),((lotAt ls b).id,(lotAt ls b).free)]]):=by
 obtain ⟨⟨cs,hcs⟩,hcl⟩:=hns
 have n0:w.cell? ⟨gn,0,none⟩=some (.int .i64 (a:Int)):=hcl 0 (by simp)
 have n1:w.cell? ⟨gn,1,none⟩=some (.int .i64 (b:Int)):=hcl 1 (by simp)
 have n2:w.cell? ⟨gn,2,none⟩=some (.int .i64 (m:Int)):=hcl 2 (by simp)
 have hgn:=blk_lt hcs
 have HB:=hide (at_any hP b h2)
 have HM:=hide (roomR_any (hP.below (drewB w)) m h3)
 rw [hr] at HM
 have hl30:=roomC_len hr
 have HV0:Hid (atV ls b=(idx b ls:Int)):=by unfold Hid atV;rw [if_pos hj]
 rw [HV0.out] at HB
 obtain ⟨av,cap,hv,hrow⟩:=hP.shape
 obtain ⟨G,hG,hGlt,hcells⟩:=hrow (by omega)
 subst hG
 have c1:=hP.c1
 rw [hv] at c1
 have hroom:=hP.room
 have hoka:=hP.ok _ (mem_getD hi)
 have hokb:=hP.ok _ (mem_getD hj)
 have HLA:Hid (lotAt ls a=ls.getD (idx a ls) L0):=rfl
 have HLB:Hid (lotAt ls b=ls.getD (idx b ls) L0):=rfl
 obtain ⟨i,HI0⟩:∃ i,Hid (i=idx a ls):=⟨_,rfl⟩
 obtain ⟨j,HJ0⟩:∃ j,Hid (j=idx b ls):=⟨_,rfl⟩
 rw [← HI0.out] at hi he HLA hoka ⊢
 rw [← HJ0.out] at HB hj he HLB hokb ⊢
 have ca1:w.cell? ⟨G,i * 11+1,none⟩=some (.int .i64 ((ls.getD i L0).goods:Int)):=hcells i hi 1 (by omega)
 have cb1:w.cell? ⟨G,j * 11+1,none⟩=some (.int .i64 ((ls.getD j L0).goods:Int)):=hcells j hj 1 (by omega)
 have ca2:w.cell? ⟨G,i * 11+2,none⟩=some (.int .i64 ((ls.getD i L0).expiry:Int)):=hcells i hi 2 (by omega)
 have cb2:w.cell? ⟨G,j * 11+2,none⟩=some (.int .i64 ((ls.getD j L0).expiry:Int)):=hcells j hj 2 (by omega)
 have ca5:w.cell? ⟨G,i * 11+5,none⟩=some (.int .i64 ((ls.getD i L0).free:Int)):=hcells i hi 5 (by omega)
 have cb5:w.cell? ⟨G,j * 11+5,none⟩=some (.int .i64 ((ls.getD j L0).free:Int)):=hcells j hj 5 (by omega)
 rw [← HLA.out] at ca1 ca2 ca5 hoka
 rw [← HLB.out] at cb1 cb2 cb5 hokb
 generalize lotAt ls a=la at *
 generalize lotAt ls b=lb at *
 have hla:ls.getD i L0=la:=HLA.out.symm
 have hlb:ls.getD j L0=lb:=HLB.out.symm
 have hga:=hoka.goods
 have hgb:=hokb.goods
 have hea:=hoka.expiry
 have heb:=hokb.expiry
 have hfa:la.free≤2147483647:=by have:=hoka.sum;omega
 have hfb:lb.free≤2147483647:=by have:=hokb.sum;omega
 have hadd:((la.free+lb.free:Nat):Int)=(la.free:Int)+(lb.free:Int):=by omega
 have hmin:min la.expiry lb.expiry=lb.expiry:=by omega
 rw [hmin]
 have hida:la.id=a:=by rw [HLA.out,HI0.out];exact idx_id (by rw [← HI0.out];exact hi)
 have hidb:lb.id=b:=by rw [HLB.out,HJ0.out];exact idx_id (by rw [← HJ0.out];exact hj)
 have HDP:Hid (dpar [(a,la.free),(b,lb.free)]=[(b,lb.free),(a,la.free)]):=by unfold Hid;simp [dpar,hba]
 have HIDS:∀ k,(((ls.set i (gaveL la la.free)).set j (gaveL lb lb.free)).getD k L0).id=(ls.getD k L0).id:=fun k=>by
  by_cases hk:k=j
  ·subst hk;rw [gset_eq (by rw [List.length_set];exact hj),hlb];rfl
  ·rw [gset_ne hk]
   by_cases hk':k=i
   ·subst hk';rw [gset_eq hi,hla];rfl
   ·rw [gset_ne hk']
 rw [hida,hidb]
 obtain ⟨wg,hwg⟩:∃ wg,wg=((w.alloc (Obj.cells #[.int .i64 (a:Int),.int .i64 (la.free:Int),.int .i64 (b:Int),.int .i64 (lb.free:Int)] 181)).alloc (Obj.cells #[.int .i64 (b:Int),.int .i64 (lb.free:Int),.int .i64 (a:Int),.int .i64 (la.free:Int)] 181)).drew.drew.drew.drew:=⟨_,rfl⟩
 have hbg:Below w.heap.size w wg:=by rw [hwg];exact ((al1 w _).alloc (al1 w _).size _).drew.drew.drew.drew
 have blkg:wg.heap[w.heap.size+1]?=some (Obj.cells #[.int .i64 (b:Int),.int .i64 (lb.free:Int),.int .i64 (a:Int),.int .i64 (la.free:Int)] 181 (0,0)):=by rw [hwg];show ((w.alloc _).alloc _).heap[w.heap.size+1]?=_;exact heap_alloc_new' _ _ _ (by simp)
 have hcsg:wg.heap[gn]?=some (.cells cs 3 (0,0)):=(hbg.block gn hgn).trans hcs
 have hPg:=hP.below hbg
 have HG:=hide ((givesR_any hPg i la.free hi (by rw [hla];exact Nat.le_refl _)).mono (fun e w2 hh=>by
  have hP2:=hh.2.2
  rw [hla] at hP2
  have hgn2:w2.heap[gn]?=some (.cells cs 3 (0,0)):=(hh.2.1.block gn (blk_lt hcsg) (hPg.apart2 hcsg (by decide))).trans hcsg
  have blk2:=(hh.2.1.block _ (blk_lt blkg) (hPg.apart2 blkg (by decide))).trans blkg
  have hG2:=(givesR_any hP2 j lb.free (by rw [List.length_set];exact hj) (by rw [getD_set_ne _ he,hlb];exact Nat.le_refl _)).mono (fun e w3 hk=>by
   have hP3:=hk.2.2
   rw [getD_set_ne _ he,hlb] at hP3
   have hgn3:w3.heap[gn]?=some (.cells cs 3 (0,0)):=(hk.2.1.block gn (blk_lt hgn2) (hP2.apart2 hgn2 (by decide))).trans hgn2
   have blk3:=(hk.2.1.block _ (blk_lt blk2) (hP2.apart2 blk2 (by decide))).trans blk2
   obtain ⟨a3,cap3,hv3,hrow3⟩:=hP3.shape
   rw [List.length_set,List.length_set] at hv3 hrow3
   rw [hv] at hv3
   cases hv3
   obtain ⟨G3,hG3,hGl3,hcells3⟩:=hrow3 (by omega)
   cases hG3
   have q1:=hP3.c1
   rw [hv] at q1
   have q2:=hcells3 i hi 1 (by omega)
   have eset:((ls.set i (gaveL la la.free)).set j (gaveL lb lb.free)).getD i L0=gaveL la la.free:=by
    rw [getD_set_ne _ (Ne.symm he)];simp [List.getD_eq_getElem?_getD,List.getElem?_set,hi]
   rw [eset] at q2
   have m2:w3.cell? ⟨gn,2,none⟩=some (.int .i64 (m:Int)):=by rw [blk_cell hgn3,← blk_cell hcs];exact n2
   have HADD:=hide (addR_any (hP3.below (drewB w3)) m la.goods lb.expiry (la.free+lb.free) (some ⟨w.heap.size+1,0,none⟩) 2 2 [(a,la.free),(b,lb.free)] (by rw [HDP.out];exact Or.inr ⟨_,_,_,rfl,blk3,fun k hk=>by rcases (show k=0∨k=1 by simp at hk;omega) with rfl | rfl <;> exact ⟨rfl,rfl⟩⟩) (fun g hg e=>by cases hg;exact absurd (hP.ord.lt (Or.inr (Or.inr (Or.inl e)))) (by show ¬ w.heap.size+1<w.heap.size;omega)) ⟨by simp,by simp;exact ⟨h1,h2⟩⟩ (hP3.fam.snoc (fun k hk=>by rw [HIDS k];exact room_fresh hr k (by rw [List.length_set,List.length_set] at hk;exact hk)) (fun p hp=>by
    simp only [List.mem_cons,List.not_mem_nil,or_false] at hp
    rcases hp with rfl | rfl
    ·exact ⟨i,by rw [List.length_set,List.length_set];exact hi,by rw [HIDS i,hla];exact hida⟩
    ·exact ⟨j,by rw [List.length_set,List.length_set];exact hj,by rw [HIDS j,hlb];exact hidb⟩)) (by rw [List.length_set,List.length_set];exact hl30) h3 hga (by omega) hz2)
   rw [hadd] at HADD
   exact (⟨hk.1,hide hk.2.1,HADD,m2,q1,q2,hide hk.2.1.size⟩:_∧Hid _∧_∧_∧_∧(_:Option Value)=some (.int .i64 (la.goods:Int))∧_))
  exact (⟨hh.1,hide hh.2.1,hide hG2,hide hh.2.1.size⟩:_∧Hid _∧Hid _∧_)))
 obtain ⟨len,HN⟩:∃ len,Hid (len=ls.length):=⟨_,rfl⟩
 rw [← HN.out] at c1 hi hj hroom HG
 have HZ:=hide hZ
 have HZv:=hide hZv
 have HZo:=hide hZo
 have HBG:=hide hbg
 have hg':=bneN_f hg
 have hij:=beqN_f he
 have hzb:(((la.free:Int)+(lb.free:Int)) == 0)=false:=by rw [beq_eq_false_iff_ne];omega
 have hRlt:=blk_lt hP.store
 subst hwg
 clear HIDS HDP blkg hida hidb hP hv hcells hrow hoka hokb hcs hcl HV0 hr hla hlb hZ hZv hZo hbg hcsg hPg hadd hmin hg he
 go_enter Tryz.func112,Tryz.ntmps112
 go_wp2_with (go_at_call 111;refine (HB.out).mono ?_;rintro e w1 ⟨rfl,rfl⟩)
 go_region
 go_wp2_with (go_at_call 109;refine (HM.out).mono ?_;rintro e w1 ⟨rfl,rfl⟩)
 go_region
 go_wp2_with fail
 go_region
 go_wp2_with fail
 go_region
 go_wp2_with (first
  | (go_at_call 113;with_reducible refine (HG.out).mono ?_;rintro e w2 ⟨rfl,hh2,HG2,hsz2⟩)
  | (go_at_call 113;with_reducible refine (HG2.out).mono ?_;rintro e w3 ⟨rfl,hh3,HADD,m2,q1,q2,hsz3⟩))
 clear n0 n1 n2 c1 ca1 ca2 ca5 cb1 cb2 cb5
 obtain ⟨S0,hS0⟩:∃ S0:World→Prop,∀ w',S0 w'↔(w'.cell? ⟨gn,2,none⟩=some (.int .i64 (m:Int))∧w'.cell? ⟨R,1,none⟩=some (.slice (some ⟨G,0,none⟩) len cap)∧w'.cell? ⟨G,i * 11+1,none⟩=some (.int .i64 (la.goods:Int))):=⟨_,fun _=>Iff.rfl⟩
 have x0:∀ x:Wd S0,x.w.cell? ⟨gn,2,none⟩=some (.int .i64 (m:Int)):=fun x=>((hS0 _).1 x.h).1
 have x1:∀ x:Wd S0,x.w.cell? ⟨R,1,none⟩=some (.slice (some ⟨G,0,none⟩) len cap):=fun x=>((hS0 _).1 x.h).2.1
 have x2:∀ x:Wd S0,x.w.cell? ⟨G,i * 11+1,none⟩=some (.int .i64 (la.goods:Int)):=fun x=>((hS0 _).1 x.h).2.2
 have hS2:S0 w3.drew:=(hS0 _).2 ⟨m2,q1,q2⟩
 clear hS0 m2 q1 q2
 haveI hinh:Inhabited (Wd S0):=⟨⟨_,hS2⟩⟩
 refine wp_region_lit (n:=8) (m:=1) 17 17 (fun w'=>∃ x:Wd S0,w'=x.w) (by kernel_rfl) (by kernel_rfl) (fun _ _ d _ _ h=>by cases d <;> exact h) (by kernel_rfl) (by kernel_rfl) rfl rfl ⟨⟨_,hS2⟩,rfl⟩ ?_
 clear hS2
 dsimp only [List.take]
 repeat (go_big_quiet_step (fail))
 refine wpQuiet_nil ?_
 refine wpN_one (i:=17) (by kernel_rfl) rfl rfl (fun K hK=>?_)
 go_wp2_with (first
   | (go_at_call 110;refine (HADD.out).mono ?_;rintro e w4 ⟨rfl,hk4,v',hrv,hat⟩))
 refine hK _ _ (by first | exact Or.inl rfl | exact Or.inl trivial | trivial) ?_
 refine wpN_done (by kernel_rfl) ?_
 have HK4:=hide hk4
 have HRV:=hide hrv
 have HAT:=hide hat
 clear hK x0 x1 x2 hk4 hrv hat
 go_wp2_with fail
 go_ret
 have hk2:=hh2.out
 have hk3:=hh3.out
 have hs2:=hsz2.out
 have hs3:=hsz3.out
 have hsg:=HBG.out.size
 have hrv:=HRV.out
 rw [List.length_set,List.length_set] at hrv
 refine ⟨?_,rfl,v',_,_,hrv,Or.inl HZ.out,fun g hg=>?_,fun g hg=>(OB_lot hg).elim (fun h=>Or.inl (HZo.out g h)) (fun h=>by cases h;right;exact Nat.le_succ _)⟩
 ·refine ((Kp.before HBG.out (hk2.mono (fun k hq=>Or.inl (HZv.out k hq)))).trans (hk3.mono (fun k hq=>Or.inl (HZv.out k hq)))).trans ?_
  exact Kp.before (drewB _) (HK4.out.mono (fun k hq=>Or.inl (Or.inl (hq.elim (fun e=>e ▸ HZ.out) (fun e=>HZv.out k e)))))
 ·rcases HAT.out g hg with h | h
  ·exact Or.inl (HZv.out g h)
  ·right;exact Nat.le_trans hsg (Nat.le_trans hs2 (Nat.le_trans hs3 h))
end Go.Proofs.YtgcedalggnmooaaGreatDoor
namespace Go.Proofs.YtgcedalggnmooaaGreatDoor
open Go.RowKit
set_option maxHeartbeats 3200000 in
theorem mergeR_yes2 {rcs:List (Nat × Nat)} {Z:Nat→Prop} {w:World} {R td:Nat} {v:Value} {fs:List Value} {rec:ByteArray} {ls:List L} {os:List O} {ro:Ro} (hP:RV os rcs ro w R v td rec fs ls) (hZ:Z R) (hZv:∀ g,v.ownBlock=some g→Z g) (hZo:∀ g,OB ro g→Z g) (gn cap0:Nat) (a b m:Nat) (hns:NS w gn [a,b,m]) (h1:a≤2147483647) (h2:b≤2147483647) (h3:m≤2147483647)
  (hi:idx a ls<ls.length) (hj:idx b ls<ls.length) (he:idx a ls≠idx b ls) (hg:(lotAt ls a).goods=(lotAt ls b).goods) (hr:roomC ls m=0) (hz:(lotAt ls a).free+(lotAt ls b).free≠0) (hz2:(lotAt ls a).free+(lotAt ls b).free≤2147483647) (hmm:¬ (lotAt ls b).expiry<(lotAt ls a).expiry) (hba:b<a) :
  Calls Tryz.prog 112 #[.pointer (some ⟨R,0,none⟩),.int .i64 (idx a ls:Int),.slice (some ⟨gn,0,none⟩) 3 cap0] w fun e w'=>Kp Z w w'∧e=.returned (.int .i64 0) ∧
   RI os rcs (Zn Z w) w' R td rec ((ls.set (idx a ls) (gaveL (lotAt ls a) (lotAt ls a).free)).set (idx b ls) (gaveL (lotAt ls b) (lotAt ls b).free)++[mkL ls m (lotAt ls a).goods (min (lotAt ls a).expiry (lotAt ls b).expiry) ((lotAt ls a).free+(lotAt ls b).free) [((lotAt ls a).id,(lotAt ls a).free),((lotAt ls b).id,(lotAt ls b).free)]]):=by
 obtain ⟨⟨cs,hcs⟩,hcl⟩:=hns
 have n0:w.cell? ⟨gn,0,none⟩=some (.int .i64 (a:Int)):=hcl 0 (by simp)
 have n1:w.cell? ⟨gn,1,none⟩=some (.int .i64 (b:Int)):=hcl 1 (by simp)
 have n2:w.cell? ⟨gn,2,none⟩=some (.int .i64 (m:Int)):=hcl 2 (by simp)
 have hgn:=blk_lt hcs
 have HB:=hide (at_any hP b h2)
 have HM:=hide (roomR_any (hP.below (drewB w)) m h3)
 rw [hr] at HM
 have hl30:=roomC_len hr
 have HV0:Hid (atV ls b=(idx b ls:Int)):=by unfold Hid atV;rw [if_pos hj]
 rw [HV0.out] at HB
 obtain ⟨av,cap,hv,hrow⟩:=hP.shape
 obtain ⟨G,hG,hGlt,hcells⟩:=hrow (by omega)
 subst hG
 have c1:=hP.c1
 rw [hv] at c1
 have hroom:=hP.room
 have hoka:=hP.ok _ (mem_getD hi)
 have hokb:=hP.ok _ (mem_getD hj)
 have HLA:Hid (lotAt ls a=ls.getD (idx a ls) L0):=rfl
 have HLB:Hid (lotAt ls b=ls.getD (idx b ls) L0):=rfl
 obtain ⟨i,HI0⟩:∃ i,Hid (i=idx a ls):=⟨_,rfl⟩
 obtain ⟨j,HJ0⟩:∃ j,Hid (j=idx b ls):=⟨_,rfl⟩
 rw [← HI0.out] at hi he HLA hoka ⊢
 rw [← HJ0.out] at HB hj he HLB hokb ⊢
 have ca1:w.cell? ⟨G,i * 11+1,none⟩=some (.int .i64 ((ls.getD i L0).goods:Int)):=hcells i hi 1 (by omega)
 have cb1:w.cell? ⟨G,j * 11+1,none⟩=some (.int .i64 ((ls.getD j L0).goods:Int)):=hcells j hj 1 (by omega)
 have ca2:w.cell? ⟨G,i * 11+2,none⟩=some (.int .i64 ((ls.getD i L0).expiry:Int)):=hcells i hi 2 (by omega)
 have cb2:w.cell? ⟨G,j * 11+2,none⟩=some (.int .i64 ((ls.getD j L0).expiry:Int)):=hcells j hj 2 (by omega)
 have ca5:w.cell? ⟨G,i * 11+5,none⟩=some (.int .i64 ((ls.getD i L0).free:Int)):=hcells i hi 5 (by omega)
 have cb5:w.cell? ⟨G,j * 11+5,none⟩=some (.int .i64 ((ls.getD j L0).free:Int)):=hcells j hj 5 (by omega)
 rw [← HLA.out] at ca1 ca2 ca5 hoka
 rw [← HLB.out] at cb1 cb2 cb5 hokb
 generalize lotAt ls a=la at *
 generalize lotAt ls b=lb at *
 have hla:ls.getD i L0=la:=HLA.out.symm
 have hlb:ls.getD j L0=lb:=HLB.out.symm
 have hga:=hoka.goods
 have hgb:=hokb.goods
 have hea:=hoka.expiry
 have heb:=hokb.expiry
 have hfa:la.free≤2147483647:=by have:=hoka.sum;omega
 have hfb:lb.free≤2147483647:=by have:=hokb.sum;omega
 have hadd:((la.free+lb.free:Nat):Int)=(la.free:Int)+(lb.free:Int):=by omega
 have hmin:min la.expiry lb.expiry=la.expiry:=by omega
 rw [hmin]
 have hida:la.id=a:=by rw [HLA.out,HI0.out];exact idx_id (by rw [← HI0.out];exact hi)
 have hidb:lb.id=b:=by rw [HLB.out,HJ0.out];exact idx_id (by rw [← HJ0.out];exact hj)
 have HDP:Hid (dpar [(a,la.free),(b,lb.free)]=[(b,lb.free),(a,la.free)]):=by unfold Hid;simp [dpar,hba]
 have HIDS:∀ k,(((ls.set i (gaveL la la.free)).set j (gaveL lb lb.free)).getD k L0).id=(ls.getD k L0).id:=fun k=>by
  by_cases hk:k=j
  ·subst hk;rw [gset_eq (by rw [List.length_set];exact hj),hlb];rfl
  ·rw [gset_ne hk]
   by_cases hk':k=i
   ·subst hk';rw [gset_eq hi,hla];rfl
   ·rw [gset_ne hk']
 rw [hida,hidb]
 obtain ⟨wg,hwg⟩:∃ wg,wg=((w.alloc (Obj.cells #[.int .i64 (a:Int),.int .i64 (la.free:Int),.int .i64 (b:Int),.int .i64 (lb.free:Int)] 181)).alloc (Obj.cells #[.int .i64 (b:Int),.int .i64 (lb.free:Int),.int .i64 (a:Int),.int .i64 (la.free:Int)] 181)).drew.drew.drew.drew:=⟨_,rfl⟩
 have hbg:Below w.heap.size w wg:=by rw [hwg];exact ((al1 w _).alloc (al1 w _).size _).drew.drew.drew.drew
 have blkg:wg.heap[w.heap.size+1]?=some (Obj.cells #[.int .i64 (b:Int),.int .i64 (lb.free:Int),.int .i64 (a:Int),.int .i64 (la.free:Int)] 181 (0,0)):=by rw [hwg];show ((w.alloc _).alloc _).heap[w.heap.size+1]?=_;exact heap_alloc_new' _ _ _ (by simp)
 have hcsg:wg.heap[gn]?=some (.cells cs 3 (0,0)):=(hbg.block gn hgn).trans hcs
 have hPg:=hP.below hbg
 have HG:=hide ((givesR_any hPg i la.free hi (by rw [hla];exact Nat.le_refl _)).mono (fun e w2 hh=>by
  have hP2:=hh.2.2
  rw [hla] at hP2
  have hgn2:w2.heap[gn]?=some (.cells cs 3 (0,0)):=(hh.2.1.block gn (blk_lt hcsg) (hPg.apart2 hcsg (by decide))).trans hcsg
  have blk2:=(hh.2.1.block _ (blk_lt blkg) (hPg.apart2 blkg (by decide))).trans blkg
  have hG2:=(givesR_any hP2 j lb.free (by rw [List.length_set];exact hj) (by rw [getD_set_ne _ he,hlb];exact Nat.le_refl _)).mono (fun e w3 hk=>by
   have hP3:=hk.2.2
   rw [getD_set_ne _ he,hlb] at hP3
   have hgn3:w3.heap[gn]?=some (.cells cs 3 (0,0)):=(hk.2.1.block gn (blk_lt hgn2) (hP2.apart2 hgn2 (by decide))).trans hgn2
   have blk3:=(hk.2.1.block _ (blk_lt blk2) (hP2.apart2 blk2 (by decide))).trans blk2
   obtain ⟨a3,cap3,hv3,hrow3⟩:=hP3.shape
   rw [List.length_set,List.length_set] at hv3 hrow3
   rw [hv] at hv3
   cases hv3
   obtain ⟨G3,hG3,hGl3,hcells3⟩:=hrow3 (by omega)
   cases hG3
   have q1:=hP3.c1
   rw [hv] at q1
   have q2:=hcells3 i hi 1 (by omega)
   have eset:((ls.set i (gaveL la la.free)).set j (gaveL lb lb.free)).getD i L0=gaveL la la.free:=by
    rw [getD_set_ne _ (Ne.symm he)];simp [List.getD_eq_getElem?_getD,List.getElem?_set,hi]
   rw [eset] at q2
   have m2:w3.cell? ⟨gn,2,none⟩=some (.int .i64 (m:Int)):=by rw [blk_cell hgn3,← blk_cell hcs];exact n2
   have HADD:=hide (addR_any (hP3.below (drewB w3)) m la.goods la.expiry (la.free+lb.free) (some ⟨w.heap.size+1,0,none⟩) 2 2 [(a,la.free),(b,lb.free)] (by rw [HDP.out];exact Or.inr ⟨_,_,_,rfl,blk3,fun k hk=>by rcases (show k=0∨k=1 by simp at hk;omega) with rfl | rfl <;> exact ⟨rfl,rfl⟩⟩) (fun g hg e=>by cases hg;exact absurd (hP.ord.lt (Or.inr (Or.inr (Or.inl e)))) (by show ¬ w.heap.size+1<w.heap.size;omega)) ⟨by simp,by simp;exact ⟨h1,h2⟩⟩ (hP3.fam.snoc (fun k hk=>by rw [HIDS k];exact room_fresh hr k (by rw [List.length_set,List.length_set] at hk;exact hk)) (fun p hp=>by
    simp only [List.mem_cons,List.not_mem_nil,or_false] at hp
    rcases hp with rfl | rfl
    ·exact ⟨i,by rw [List.length_set,List.length_set];exact hi,by rw [HIDS i,hla];exact hida⟩
    ·exact ⟨j,by rw [List.length_set,List.length_set];exact hj,by rw [HIDS j,hlb];exact hidb⟩)) (by rw [List.length_set,List.length_set];exact hl30) h3 hga (by omega) hz2)
   rw [hadd] at HADD
   exact (⟨hk.1,hide hk.2.1,HADD,m2,q1,q2,hide hk.2.1.size⟩:_∧Hid _∧_∧_∧_∧(_:Option Value)=some (.int .i64 (la.goods:Int))∧_))
  exact (⟨hh.1,hide hh.2.1,hide hG2,hide hh.2.1.size⟩:_∧Hid _∧Hid _∧_)))
 obtain ⟨len,HN⟩:∃ len,Hid (len=ls.length):=⟨_,rfl⟩
 rw [← HN.out] at c1 hi hj hroom HG
 have HZ:=hide hZ
 have HZv:=hide hZv
 have HZo:=hide hZo
 have HBG:=hide hbg
 have hg':=bneN_f hg
 have hij:=beqN_f he
 have hzb:(((la.free:Int)+(lb.free:Int)) == 0)=false:=by rw [beq_eq_false_iff_ne];omega
 have hRlt:=blk_lt hP.store
 subst hwg
 clear HIDS HDP blkg hida hidb hP hv hcells hrow hoka hokb hcs hcl HV0 hr hla hlb hZ hZv hZo hbg hcsg hPg hadd hmin hg he
 go_enter Tryz.func112,Tryz.ntmps112
 go_wp2_with (go_at_call 111;refine (HB.out).mono ?_;rintro e w1 ⟨rfl,rfl⟩)
 go_region
 go_wp2_with (go_at_call 109;refine (HM.out).mono ?_;rintro e w1 ⟨rfl,rfl⟩)
 go_region
 go_wp2_with fail
 go_region
 go_wp2_with fail
 go_region
 go_wp2_with (first
  | (go_at_call 113;with_reducible refine (HG.out).mono ?_;rintro e w2 ⟨rfl,hh2,HG2,hsz2⟩)
  | (go_at_call 113;with_reducible refine (HG2.out).mono ?_;rintro e w3 ⟨rfl,hh3,HADD,m2,q1,q2,hsz3⟩))
 clear n0 n1 n2 c1 ca1 ca2 ca5 cb1 cb2 cb5
 obtain ⟨S0,hS0⟩:∃ S0:World→Prop,∀ w',S0 w'↔(w'.cell? ⟨gn,2,none⟩=some (.int .i64 (m:Int))∧w'.cell? ⟨R,1,none⟩=some (.slice (some ⟨G,0,none⟩) len cap)∧w'.cell? ⟨G,i * 11+1,none⟩=some (.int .i64 (la.goods:Int))):=⟨_,fun _=>Iff.rfl⟩
 have x0:∀ x:Wd S0,x.w.cell? ⟨gn,2,none⟩=some (.int .i64 (m:Int)):=fun x=>((hS0 _).1 x.h).1
 have x1:∀ x:Wd S0,x.w.cell? ⟨R,1,none⟩=some (.slice (some ⟨G,0,none⟩) len cap):=fun x=>((hS0 _).1 x.h).2.1
 have x2:∀ x:Wd S0,x.w.cell? ⟨G,i * 11+1,none⟩=some (.int .i64 (la.goods:Int)):=fun x=>((hS0 _).1 x.h).2.2
 have hS2:S0 w3.drew:=(hS0 _).2 ⟨m2,q1,q2⟩
 clear hS0 m2 q1 q2
 haveI hinh:Inhabited (Wd S0):=⟨⟨_,hS2⟩⟩
 refine wp_region_lit (n:=8) (m:=1) 17 17 (fun w'=>∃ x:Wd S0,w'=x.w) (by kernel_rfl) (by kernel_rfl) (fun _ _ d _ _ h=>by cases d <;> exact h) (by kernel_rfl) (by kernel_rfl) rfl rfl ⟨⟨_,hS2⟩,rfl⟩ ?_
 clear hS2
 dsimp only [List.take]
 repeat (go_big_quiet_step (fail))
 refine wpQuiet_nil ?_
 refine wpN_one (i:=17) (by kernel_rfl) rfl rfl (fun K hK=>?_)
 go_wp2_with (first
   | (go_at_call 110;refine (HADD.out).mono ?_;rintro e w4 ⟨rfl,hk4,v',hrv,hat⟩))
 refine hK _ _ (by first | exact Or.inl rfl | exact Or.inl trivial | trivial) ?_
 refine wpN_done (by kernel_rfl) ?_
 have HK4:=hide hk4
 have HRV:=hide hrv
 have HAT:=hide hat
 clear hK x0 x1 x2 hk4 hrv hat
 go_wp2_with fail
 go_ret
 have hk2:=hh2.out
 have hk3:=hh3.out
 have hs2:=hsz2.out
 have hs3:=hsz3.out
 have hsg:=HBG.out.size
 have hrv:=HRV.out
 rw [List.length_set,List.length_set] at hrv
 refine ⟨?_,rfl,v',_,_,hrv,Or.inl HZ.out,fun g hg=>?_,fun g hg=>(OB_lot hg).elim (fun h=>Or.inl (HZo.out g h)) (fun h=>by cases h;right;exact Nat.le_succ _)⟩
 ·refine ((Kp.before HBG.out (hk2.mono (fun k hq=>Or.inl (HZv.out k hq)))).trans (hk3.mono (fun k hq=>Or.inl (HZv.out k hq)))).trans ?_
  exact Kp.before (drewB _) (HK4.out.mono (fun k hq=>Or.inl (Or.inl (hq.elim (fun e=>e ▸ HZ.out) (fun e=>HZv.out k e)))))
 ·rcases HAT.out g hg with h | h
  ·exact Or.inl (HZv.out g h)
  ·right;exact Nat.le_trans hsg (Nat.le_trans hs2 (Nat.le_trans hs3 h))
end Go.Proofs.YtgcedalggnmooaaGreatDoor
