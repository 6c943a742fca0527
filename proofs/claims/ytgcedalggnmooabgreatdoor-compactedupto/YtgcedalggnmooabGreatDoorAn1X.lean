import Derived.Test.YtgcedalggnmooabGreatDoorEn3X
import Derived.Test.YtgcedalggnmooabGreatDoorSt15X
set_option linter.unusedSimpArgs false
set_option linter.unusedVariables false
set_option maxRecDepth 100000
namespace Go.Proofs.YtgcedalggnmooabGreatDoor
open Go.RowKit
theorem endC_le (os:List O) (a:Nat):endC os a≤9:=by unfold endC;split <;> omega
theorem PIn.zs {Z:Nat→Prop} {S:Nat} {M:Mx} {v:Value} {bs:List Nat} {pvs:List Value} (h:PIn Z S M v bs pvs):∀ k,(k=M.o∨k=M.h∨k ∈ bs)→Z k:=by
 rintro k (rfl | rfl | hk)
 ·exact h.mo
 ·exact h.mh
 ·exact h.b k hk
set_option maxHeartbeats 800000 in
theorem do_cancel {rcs:List (Nat × Nat)} {Z:Nat→Prop} {w:World} {S td:Nat} {ls:List L} {os:List O} (h:PI os rcs Z w S td ls) (hgo:Good os ls) (a:Nat) (h1:a≤2147483647) :
  Calls Tryz.prog 35 #[.pointer (some ⟨S,0,none⟩),.iface 101 (.agg #[.int .i64 (a:Int)])] w fun e w'=>Kp Z w w'∧e=.returned (.tuple #[.slice none 0 0,.int .i64 (endC os a:Int)])∧PI (os.filter (fun o=>o.id != a)) rcs (Zn Z w) w' S td (ls.map (finL freeL os a)):=by
 have hal:=al1 w (Obj.cells #[.int .i64 (a:Int)] 101)
 obtain ⟨M,v,bs,pvs,hP,hin⟩:=h
 have HD:=hide (cancel_any (hP.below hal) hgo a h1)
 have HIN:=hide hin
 generalize ls.map (finL freeL os a)=ls' at HD ⊢
 generalize os.filter (fun o=>o.id != a)=os' at HD ⊢
 generalize endC os a=rc at HD ⊢
 clear hP hgo hin
 have t100:=as_Cancel_Day
 have t103:=as_Cancel_Receive
 have t106:=as_Cancel_Split
 have t109:=as_Cancel_Merge
 have t_Order:=as_Cancel_Order
 have t_Cancel:=as_Cancel_Cancel
 have t_Ship:=as_Cancel_Ship
 go_enter Tryz.func35,Tryz.ntmps35
 go_wp2_with fail
 refine (HD.out).mono ?_
 rintro e w1 ⟨hk,rfl,hpv⟩
 have HPV:=hide hpv
 clear hpv
 go_wp2_with fail
 go_ret2
 exact ⟨Kp.before hal (hk.mono (fun k hk=>Or.inl (HIN.out.zs k hk))),rfl,M,v,bs,pvs,HPV.out,HIN.out.mono (fun k hk=>Or.inl hk)⟩
set_option maxHeartbeats 800000 in
theorem do_ship {rcs:List (Nat × Nat)} {Z:Nat→Prop} {w:World} {S td:Nat} {ls:List L} {os:List O} (h:PI os rcs Z w S td ls) (hgo:Good os ls) (a:Nat) (h1:a≤2147483647) :
  Calls Tryz.prog 35 #[.pointer (some ⟨S,0,none⟩),.iface 103 (.agg #[.int .i64 (a:Int)])] w fun e w'=>Kp Z w w'∧e=.returned (.tuple #[.slice none 0 0,.int .i64 (endC os a:Int)])∧PI (os.filter (fun o=>o.id != a)) rcs (Zn Z w) w' S td (ls.map (finL shipL os a)):=by
 have hal:=al1 w (Obj.cells #[.int .i64 (a:Int)] 103)
 obtain ⟨M,v,bs,pvs,hP,hin⟩:=h
 have HD:=hide (ship_any (hP.below hal) hgo a h1)
 have HIN:=hide hin
 generalize ls.map (finL shipL os a)=ls' at HD ⊢
 generalize os.filter (fun o=>o.id != a)=os' at HD ⊢
 generalize endC os a=rc at HD ⊢
 clear hP hgo hin
 have t100:=as_Ship_Day
 have t103:=as_Ship_Receive
 have t106:=as_Ship_Split
 have t109:=as_Ship_Merge
 have t_Order:=as_Ship_Order
 have t_Cancel:=as_Ship_Cancel
 have t_Ship:=as_Ship_Ship
 go_enter Tryz.func35,Tryz.ntmps35
 go_wp2_with fail
 refine (HD.out).mono ?_
 rintro e w1 ⟨hk,rfl,hpv⟩
 have HPV:=hide hpv
 clear hpv
 go_wp2_with fail
 go_ret2
 exact ⟨Kp.before hal (hk.mono (fun k hk=>Or.inl (HIN.out.zs k hk))),rfl,M,v,bs,pvs,HPV.out,HIN.out.mono (fun k hk=>Or.inl hk)⟩
end Go.Proofs.YtgcedalggnmooabGreatDoor
namespace Go.Proofs.YtgcedalggnmooabGreatDoor
open Go.RowKit
def askO (rcs:List (Nat × Nat)) (os:List O) (td:Nat) (ls:List L) (id goods count gate way:Nat):List O:=if askC rcs os td ls id goods count gate way=0 then os++[⟨id,goods,linesId ls (linesQ rcs td goods count gate way ls)⟩] else os
def askL (rcs:List (Nat × Nat)) (os:List O) (td:Nat) (ls:List L) (id goods count gate way:Nat):List L:=if askC rcs os td ls id goods count gate way=0 then holdS ls (linesQ rcs td goods count gate way ls) else ls
def askR (rcs:List (Nat × Nat)) (os:List O) (td:Nat) (ls:List L) (id goods count gate way:Nat):List UInt8:=if askC rcs os td ls id goods count gate way=0 then 0 :: Pl.toldB (toldQ ls (linesQ rcs td goods count gate way ls)) else [UInt8.ofNat (askC rcs os td ls id goods count gate way)]
theorem askC_le {rcs:List (Nat × Nat)} (os:List O) (td:Nat) (ls:List L) (id goods count gate way:Nat):askC rcs os td ls id goods count gate way≤9:=by
 unfold askC;split <;> (try split) <;> (try split) <;> omega
theorem askC_zero {rcs:List (Nat × Nat)} {os:List O} {td:Nat} {ls:List L} {id goods count gate way:Nat} (h:askC rcs os td ls id goods count gate way=0):os.any (fun o=>o.id == id)=false∧¬ 10≤os.length∧¬ (sumQ (linesQ rcs td goods count gate way ls)=0∨(sumQ (linesQ rcs td goods count gate way ls)<count∧wayW way=true)):=by
 unfold askC at h
 cases ha:os.any (fun o=>o.id == id) with
 | true=>rw [ha] at h;simp at h
 | false =>
  rw [ha] at h
  simp only [Bool.false_eq_true,if_false] at h
  by_cases h10:10≤os.length
  ·rw [if_pos h10] at h;omega
  ·rw [if_neg h10] at h
   by_cases hs:sumQ (linesQ rcs td goods count gate way ls)=0∨(sumQ (linesQ rcs td goods count gate way ls)<count∧wayW way=true)
   ·rw [if_pos hs] at h;omega
   ·exact ⟨rfl,h10,hs⟩
def Rw (w:World) (g:Nat) (ns:List Nat):Prop:=g<w.heap.size∧∀ j,j<ns.length→w.cell? ⟨g,j,none⟩=some (.int .i64 (ns.getD j 0:Nat))
theorem Rw.of {w:World} {g c:Nat} {ns:List Nat} (h:w.ownsRow 0 2 1 (.slice (some ⟨g,0,none⟩) ns.length c) ns.length (I ns)) (hp:0<ns.length):Rw w g ns:=by
 obtain ⟨cs,hcs⟩:=own_ty h (g:=g) rfl
 refine ⟨blk_lt hcs,fun j hj=>?_⟩
 rw [h.cellAt j (by omega)]
 simp [I,List.getD_eq_getElem?_getD,hj]
theorem order_pi {rcs:List (Nat × Nat)} {Z:Nat→Prop} {w:World} {S td:Nat} {ls:List L} {os:List O} (h:PI os rcs Z w S td ls) (hgo:Good os ls) (id goods count gate way:Nat) (h1:id≤2147483647) (h2:goods≤2147483647) (h3:count≤2147483647) (h4:gate≤2147483647) (h5:way≤3) :
  Calls Tryz.prog 51 #[.pointer (some ⟨S,0,none⟩),.agg #[.int .i64 (id:Int),.int .i64 (goods:Int),.int .i64 (count:Int),.int .i64 (gate:Int),.int .i64 (way:Int)]] w fun e w'=>Kp Z w w'∧PI (askO rcs os td ls id goods count gate way) rcs (Zn Z w) w' S td (askL rcs os td ls id goods count gate way) ∧
   ((askC rcs os td ls id goods count gate way≠0∧e=.returned (.tuple #[.slice none 0 0,.int .i64 (askC rcs os td ls id goods count gate way:Int)]))∨(askC rcs os td ls id goods count gate way=0∧∃ g c,e=.returned (.tuple #[.slice (some ⟨g,0,none⟩) (toldQ ls (linesQ rcs td goods count gate way ls)).length c,.int .i64 0])∧Rw w' g (toldQ ls (linesQ rcs td goods count gate way ls)))):=by
 obtain ⟨M,v,bs,pvs,hP,hin⟩:=h
 by_cases hc:askC rcs os td ls id goods count gate way=0
 ·obtain ⟨q1,q2,q3⟩:=askC_zero hc
  unfold askO askL
  rw [if_pos hc,if_pos hc]
  refine (order_ok hP hgo id goods count gate way h1 h2 h3 h4 h5 q1 q2 q3).mono ?_
  rintro e w' ⟨hk,hpv,g,c,he,ho⟩
  exact ⟨hk.mono (fun k hk=>hin.zs k hk),⟨M,v,bs,pvs,hpv,hin.mono (fun k hk=>Or.inl hk)⟩,Or.inr ⟨hc,g,c,he,Rw.of ho (by simp [toldQ])⟩⟩
 ·unfold askO askL
  rw [if_neg hc,if_neg hc]
  have hfin:∀ (w':World),Below w.heap.size w w'→Kp Z w w'∧PI os rcs (Zn Z w) w' S td ls:=fun w' hb=>⟨kpB hb,M,v,bs,pvs,hP.below hb,hin.mono (fun k hk=>Or.inl hk)⟩
  by_cases hea:os.any (fun o=>o.id == id)=true∨10≤os.length
  ·refine (order_early hP id goods count gate way h1 hea).mono ?_
   rintro e w' ⟨he,hb⟩
   exact ⟨(hfin w' hb).1,(hfin w' hb).2,Or.inl ⟨hc,he⟩⟩
  ·have q1:os.any (fun o=>o.id == id)=false:=by cases hq:os.any (fun o=>o.id == id) with
    | true=>exact absurd (Or.inl hq) hea
    | false=>rfl
   have q2:¬ 10≤os.length:=fun hq=>hea (Or.inr hq)
   have q3:sumQ (linesQ rcs td goods count gate way ls)=0∨(sumQ (linesQ rcs td goods count gate way ls)<count∧wayW way=true):=by
    apply Decidable.byContradiction
    intro hq
    apply hc
    unfold askC
    rw [q1,if_neg (by simp),if_neg q2,if_neg hq]
   have hc7:askC rcs os td ls id goods count gate way=7:=by unfold askC;rw [q1,if_neg (by simp),if_neg q2,if_pos q3]
   refine (order_short hP hgo id goods count gate way h1 h2 h3 h4 h5 q1 q2 q3).mono ?_
   rintro e w' ⟨he,hb⟩
   exact ⟨(hfin w' hb).1,(hfin w' hb).2,Or.inl ⟨hc,by rw [hc7];exact he⟩⟩
set_option maxHeartbeats 1600000 in
theorem do_order {rcs:List (Nat × Nat)} {Z:Nat→Prop} {w:World} {S td:Nat} {ls:List L} {os:List O} (h:PI os rcs Z w S td ls) (hgo:Good os ls) (id goods count gate way:Nat) (h1:id≤2147483647) (h2:goods≤2147483647) (h3:count≤2147483647) (h4:gate≤2147483647) (h5:way≤3) :
  Calls Tryz.prog 35 #[.pointer (some ⟨S,0,none⟩),.iface 98 (.agg #[.int .i64 (id:Int),.int .i64 (goods:Int),.int .i64 (count:Int),.int .i64 (gate:Int),.int .i64 (way:Int)])] w fun e w'=>Kp Z w w'∧PI (askO rcs os td ls id goods count gate way) rcs (Zn Z w) w' S td (askL rcs os td ls id goods count gate way) ∧
   ((askC rcs os td ls id goods count gate way≠0∧e=.returned (.tuple #[.slice none 0 0,.int .i64 (askC rcs os td ls id goods count gate way:Int)]))∨(askC rcs os td ls id goods count gate way=0∧∃ g c,e=.returned (.tuple #[.slice (some ⟨g,0,none⟩) (toldQ ls (linesQ rcs td goods count gate way ls)).length c,.int .i64 0])∧Rw w' g (toldQ ls (linesQ rcs td goods count gate way ls)))):=by
 have hal:=al1 w (Obj.cells #[.int .i64 (id:Int),.int .i64 (goods:Int),.int .i64 (count:Int),.int .i64 (gate:Int),.int .i64 (way:Int)] 98)
 obtain ⟨M,v,bs,pvs,hP,hin⟩:=h
 have HD:=hide (order_pi (Z:=Z) ⟨M,v,bs,pvs,hP.below hal,hin⟩ hgo id goods count gate way h1 h2 h3 h4 h5)
 generalize askL rcs os td ls id goods count gate way=ls' at HD ⊢
 generalize askO rcs os td ls id goods count gate way=os' at HD ⊢
 generalize askC rcs os td ls id goods count gate way=rc at HD ⊢
 generalize toldQ ls (linesQ rcs td goods count gate way ls)=tq at HD ⊢
 clear hP hgo hin
 have t100:=as_Order_Day
 have t103:=as_Order_Receive
 have t106:=as_Order_Split
 have t109:=as_Order_Merge
 have t_Order:=as_Order_Order
 go_enter Tryz.func35,Tryz.ntmps35
 go_wp2_with fail
 refine (HD.out).mono ?_
 rintro e w1 ⟨hk,hpi,⟨hne,rfl⟩ | ⟨h0,g,c,rfl,hrw⟩⟩
 ·have HPI:=hide hpi
  clear hpi
  go_wp2_with fail
  go_ret2
  exact ⟨Kp.before hal (hk.mono (fun k h=>Or.inl h)),HPI.out.mono (zn_alloc w _),Or.inl ⟨hne,rfl⟩⟩
 ·have HPI:=hide hpi
  have HRW:=hide hrw
  clear hpi hrw
  go_wp2_with fail
  go_ret2
  exact ⟨Kp.before hal (hk.mono (fun k h=>Or.inl h)),HPI.out.mono (zn_alloc w _),Or.inr ⟨h0,g,c,rfl,HRW.out⟩⟩
theorem toldL_small {ls:List L} (hok:∀ x ∈ ls,L.Ok x):∀ (l:List (Nat × Nat)),(∀ p ∈ l,p.1<ls.length∧p.2≤2147483647)→∀ n ∈ toldL ls l,n<9223372036854775808
 | [],_=>by simp [toldL]
 | p :: r,h=>by
  intro n hn
  simp only [toldL,List.mem_cons] at hn
  rcases hn with rfl | rfl | hn
  ·have:=(hok _ (mem_getD (h p (by simp)).1)).id;omega
  ·have:=(h p (by simp)).2;omega
  ·exact toldL_small hok r (fun q hq=>h q (by simp [hq])) n hn
theorem toldQ_small {rcs:List (Nat × Nat)} {ls:List L} (hok:∀ x ∈ ls,L.Ok x) (hl:ls.length≤30) (td goods count gate way:Nat):(∀ n ∈ toldQ ls (linesQ rcs td goods count gate way ls),n<9223372036854775808)∧(toldQ ls (linesQ rcs td goods count gate way ls)).length≤61:=by
 have hf:=linesQ_facts (rcs:=rcs) td goods count gate way ls hl
 constructor
 ·intro n hn
  simp only [toldQ,List.mem_cons] at hn
  rcases hn with rfl | hn
  ·omega
  ·refine toldL_small hok _ (fun p hp=>⟨hf.2.2.1 p hp,?_⟩) n hn
   have h1:=hf.2.2.2.1 p hp
   have h2:=(hok _ (mem_getD (hf.2.2.1 p hp))).sum
   omega
 ·simp only [toldQ,List.length_cons,toldL_len];omega
end Go.Proofs.YtgcedalggnmooabGreatDoor
namespace Go.Proofs.YtgcedalggnmooabGreatDoor
open Go.RowKit
theorem holdS_place (ls:List L) (l:List (Nat × Nat)):∀ i,((holdS ls l).getD i L0).place=(ls.getD i L0).place:=by
 induction l generalizing ls with
 | nil=>intro i;rfl
 | cons p r ih =>
  intro i
  simp only [holdS]
  rw [ih]
  by_cases h:i=p.1
  ·subst h
   by_cases hl:p.1<ls.length
   ·rw [gset_eq hl];rfl
   ·simp [List.set_eq_of_length_le (show ls.length≤p.1 by omega)]
  ·rw [gset_ne h]
theorem heldSum_append (a b:List O) (n:Nat):heldSum (a++b) n=heldSum a n+heldSum b n:=by
 induction a with
 | nil=>simp [heldSum]
 | cons o a ih =>
  simp only [heldSum,List.cons_append,List.map_cons,List.sum_cons] at ih ⊢
  omega
theorem nodup_map_inj {f:Nat→Nat}:∀ (l:List Nat),l.Nodup→(∀ a ∈ l,∀ b ∈ l,f a=f b→a=b)→(l.map f).Nodup
 | [],_,_=>by simp
 | x :: l,hn,hf=>by
  rw [List.nodup_cons] at hn
  simp only [List.map_cons,List.nodup_cons]
  refine ⟨fun h=>?_,nodup_map_inj l hn.2 (fun a ha b hb=>hf a (by simp [ha]) b (by simp [hb]))⟩
  obtain ⟨y,hy,he⟩:=List.mem_map.1 h
  have:=hf y (by simp [hy]) x (by simp) he
  subst this
  exact hn.1 hy
theorem Good.ask {os:List O} {ls:List L} (h:Good os ls) {q:List (Nat × Nat)} (hn:(q.map Prod.fst).Nodup) (hin:∀ p ∈ q,p.1<ls.length) {id g:Nat} (hid:id≤2147483647) (hany:os.any (fun o=>o.id == id)=false) (h10:¬ 10≤os.length):Good (os++[⟨id,g,linesId ls q⟩]) (holdS ls q):=by
 have hnew:∀ o' ∈ os,o'.id≠id:=fun o' hm e=>by
  have:=List.any_eq_false.1 hany o' hm
  simp [e] at this
 have hlen:=holdS_len q ls
 refine ⟨fun i j hi hj he=>?_,fun i hi=>?_,?_,fun o ho=>?_,by simp;omega,fun o ho=>?_,fun o ho p hp=>?_,fun i hi=>?_⟩
 ·rw [hlen] at hi hj;rw [holdS_id,holdS_id] at he;exact h.ids i j hi hj he
 ·rw [hlen] at hi;rw [holdS_place];exact h.place i hi
 ·rw [List.map_append]
  refine List.nodup_append.2 ⟨h.oids,by simp,?_⟩
  intro a ha b hb e
  obtain ⟨o,ho,rfl⟩:=List.mem_map.1 ha
  simp at hb
  exact hnew o ho (by rw [e,hb])
 ·rcases List.mem_append.1 ho with ho | ho
  ·exact h.oid o ho
  ·simp at ho;subst ho;exact hid
 ·rcases List.mem_append.1 ho with ho | ho
  ·exact h.keys o ho
  ·simp at ho;subst ho
   have e:(linesId ls q).map Prod.fst=(q.map Prod.fst).map (fun c=>(ls.getD c L0).id):=by unfold linesId;rw [List.map_map,List.map_map];rfl
   show ((linesId ls q).map Prod.fst).Nodup
   rw [e]
   refine nodup_map_inj _ hn (fun a ha b hb he=>?_)
   obtain ⟨p,hp,rfl⟩:=List.mem_map.1 ha
   obtain ⟨r,hr,rfl⟩:=List.mem_map.1 hb
   exact h.ids _ _ (hin p hp) (hin r hr) he
 ·rcases List.mem_append.1 ho with ho | ho
  ·obtain ⟨i,hi,he⟩:=h.mem o ho p hp
   exact ⟨i,by rw [hlen];exact hi,by rw [holdS_id];exact he⟩
  ·simp at ho;subst ho
   obtain ⟨r,hr,rfl⟩:=List.mem_map.1 hp
   exact ⟨r.1,by rw [hlen];exact hin r hr,by rw [holdS_id]⟩
 ·rw [hlen] at hi
  rw [holdS_id,heldSum_append]
  have e1:heldSum [⟨id,g,linesId ls q⟩] (ls.getD i L0).id=(q.lookup i).getD 0:=by
   simp only [heldSum,heldBy,List.map_cons,List.map_nil,List.sum_cons,List.sum_nil,Nat.add_zero]
   rw [linesId_lookup h.ids q hin i hi]
  rw [e1,← h.held i hi]
  by_cases hm:i ∈ q.map Prod.fst
  ·obtain ⟨p,hp,rfl⟩:=List.mem_map.1 hm
   rw [holdS_in q ls hn (n:=p.2) hp hi,lookup_of_mem hn (n:=p.2) hp]
   rfl
  ·rw [holdS_out q ls hm,lookup_none_iff.2 hm];rfl
theorem heldSum_end {a:Nat} (n:Nat):∀ (os:List O),(os.map O.id).Nodup→heldSum os n=heldSum (os.filter (fun o=>o.id != a)) n+(lineOf os a n).getD 0
 | [],_=>rfl
 | o :: os,hn=>by
  simp only [List.map_cons,List.nodup_cons] at hn
  have ih:=heldSum_end (a:=a) n os hn.2
  by_cases ho:o.id=a
  ·have hnone:os.find? (fun o=>o.id == a)=none:=by
    rw [List.find?_eq_none]
    intro o' ho' he
    have:o'.id=a:=by simpa using he
    exact hn.1 (by rw [ho,← this];exact List.mem_map_of_mem ho')
   have hl:lineOf os a n=none:=by unfold lineOf;rw [hnone];rfl
   rw [hl] at ih
   have hl2:lineOf (o :: os) a n=o.lines.lookup n:=by unfold lineOf;simp [List.find?,ho]
   have hf:(o.id != a)=false:=by simp [ho]
   rw [hl2]
   simp only [heldSum,List.map_cons,List.sum_cons,List.filter,hf,heldBy] at ih ⊢
   simp at ih
   omega
  ·have hb:(o.id == a)=false:=by simpa using ho
   have hl2:lineOf (o :: os) a n=lineOf os a n:=by unfold lineOf;simp [List.find?,hb]
   have hf:(o.id != a)=true:=by simp [ho]
   rw [hl2]
   simp only [heldSum,List.map_cons,List.sum_cons,List.filter,hf] at ih ⊢
   omega
theorem Good.fin {os:List O} {ls:List L} (h:Good os ls) (g:L→Nat→L) (hg:∀ l n,(g l n).id=l.id∧(g l n).place=l.place∧(g l n).held=l.held) (a:Nat):Good (os.filter (fun o=>o.id != a)) (ls.map (finL g os a)):=by
 have hid:∀ l,(finL g os a l).id=l.id:=fun l=>by unfold finL;split <;> simp [hg]
 have hpl:∀ l,(finL g os a l).place=l.place:=fun l=>by unfold finL;split <;> simp [hg]
 have hhe:∀ l,(finL g os a l).held=l.held - (lineOf os a l.id).getD 0:=fun l=>by
  unfold finL
  split
  ·rename_i n hn;rw [hn];simp [hg]
  ·rename_i hn;rw [hn];simp
 have hmem:∀ o ∈ os.filter (fun o=>o.id != a),o ∈ os:=fun o ho=>(List.mem_filter.1 ho).1
 refine ⟨fun i j hi hj he=>?_,fun i hi=>?_,h.oids.sublist ((List.filter_sublist (l:=os)).map _),fun o ho=>h.oid o (hmem o ho),Nat.le_trans (List.length_filter_le _ _) h.olen,fun o ho=>h.keys o (hmem o ho),fun o ho p hp=>?_,fun i hi=>?_⟩
 ·rw [List.length_map] at hi hj
  rw [getD_map hi,getD_map hj,hid,hid] at he
  exact h.ids i j hi hj he
 ·rw [List.length_map] at hi
  rw [getD_map hi,hpl];exact h.place i hi
 ·obtain ⟨i,hi,he⟩:=h.mem o (hmem o ho) p hp
  exact ⟨i,by simpa using hi,by rw [getD_map hi,hid];exact he⟩
 ·rw [List.length_map] at hi
  rw [getD_map hi,hhe,hid,h.held i hi]
  have:=heldSum_end (a:=a) (ls.getD i L0).id os h.oids
  omega
end Go.Proofs.YtgcedalggnmooabGreatDoor
namespace Go.Proofs.YtgcedalggnmooabGreatDoor
open Go.RowKit
def stepO (rcs:List (Nat × Nat)) (td:Nat) (os:List O) (ls:List L):Pl.Cmd→List UInt8 × Nat × List O × List L
 | .ok (5,[a,b,c,d,f])=>(askR rcs os td ls a b c d f,td,askO rcs os td ls a b c d f,askL rcs os td ls a b c d f)
 | .ok (6,[a])=>([UInt8.ofNat (endC os a)],td,os.filter (fun o=>o.id != a),ls.map (finL freeL os a))
 | .ok (7,[a])=>([UInt8.ofNat (endC os a)],td,os.filter (fun o=>o.id != a),ls.map (finL shipL os a))
 | c=>((stepT rcs td ls c).1,(stepT rcs td ls c).2.1,os,(stepT rcs td ls c).2.2)
theorem stepO_old {rcs:List (Nat × Nat)} {c:Pl.Cmd} (h:PlayedT c) (td:Nat) (os:List O) (ls:List L):stepO rcs td os ls c=((stepT rcs td ls c).1,(stepT rcs td ls c).2.1,os,(stepT rcs td ls c).2.2):=by
 cases c with
 | error e=>rfl
 | ok p =>
  obtain ⟨n,ns⟩:=p
  rcases h n ns rfl with rfl | rfl | rfl | rfl | rfl | rfl | rfl <;> rfl
def PlayedO (c:Pl.Cmd):Prop:=∀ n ns,c=.ok (n,ns)→n=1∨n=2∨n=11∨n=12∨n=3∨n=4∨n=10∨n=5∨n=6∨n=7
theorem playedO_or {l:List UInt8} (h:PlayedO (Pl.cmd l)):PlayedT (Pl.cmd l)∨∃ c ns,formOf l=some (c,ns)∧Pl.mays (Pl.kindsL c) ns=true∧Pl.cmd l=.ok (c,ns)∧(c=5∨c=6∨c=7)∧ns.length=(Pl.kindsL c).length∧∀ n ∈ ns,n<9223372036854775808:=by
 have hcf:=cmd_form l
 cases hform:formOf l with
 | none=>left;intro n ns hc;rw [hform] at hcf;rw [hcf] at hc;cases hc
 | some p =>
  obtain ⟨c,ns⟩:=p
  rw [hform] at hcf
  obtain ⟨hc1,hc2,hlen,hlt⟩:=form_facts hform
  cases hm:Pl.mays (Pl.kindsL c) ns with
  | false =>
   simp only [hm,Bool.false_eq_true,if_false] at hcf
   left;intro n ns hc;rw [hcf] at hc;cases hc
  | true =>
   simp only [hm,if_true] at hcf
   have hq:=h c ns hcf
   by_cases h3:c=5∨c=6∨c=7
   ·right;exact ⟨c,ns,rfl,hm,hcf,h3,hlen,hlt⟩
   ·left;intro n ms hc;rw [hcf] at hc;cases hc;omega
theorem len1' {ns:List Nat} (h:ns.length=(Pl.kindsL 6).length):∃ a,ns=[a]:=by
 match ns,h with
 | [a],_=>exact ⟨a,rfl⟩
theorem len1s {ns:List Nat} (h:ns.length=(Pl.kindsL 7).length):∃ a,ns=[a]:=by
 match ns,h with
 | [a],_=>exact ⟨a,rfl⟩
theorem len5' {ns:List Nat} (h:ns.length=(Pl.kindsL 5).length):∃ a b c d f,ns=[a,b,c,d,f]:=by
 match ns,h with
 | [a,b,c,d,f],_=>exact ⟨a,b,c,d,f,rfl⟩
theorem good_stepO {rcs:List (Nat × Nat)} {os:List O} {td:Nat} {ls:List L} (h:Good os ls) (hl:ls.length≤30) (l:List UInt8) (hp:PlayedO (Pl.cmd l)):Good (stepO rcs td os ls (Pl.cmd l)).2.2.1 (stepO rcs td os ls (Pl.cmd l)).2.2.2:=by
 rcases playedO_or hp with hold | ⟨c,ns,hform,hm,hcf,h3,hlen,hlt⟩
 ·rw [stepO_old hold];exact good_stepT h _
 ·rw [hcf]
  rcases h3 with rfl | rfl | rfl
  ·obtain ⟨a,b,c,d,f,rfl⟩:=len5' hlen
   have hd:a≤2147483647:=by simp [Pl.mays,Pl.kindsL,Pl.mayB] at hm;omega
   show Good (askO rcs os td ls a b c d f) (askL rcs os td ls a b c d f)
   unfold askO askL
   by_cases h0:askC rcs os td ls a b c d f=0
   ·rw [if_pos h0,if_pos h0]
    obtain ⟨q1,q2,_⟩:=askC_zero h0
    have hf:=linesQ_facts (rcs:=rcs) td b c d f ls hl
    exact h.ask hf.2.1 hf.2.2.1 hd q1 q2
   ·rw [if_neg h0,if_neg h0];exact h
  ·obtain ⟨a,rfl⟩:=len1' hlen
   exact h.fin freeL (fun l n=>⟨rfl,rfl,rfl⟩) a
  ·obtain ⟨a,rfl⟩:=len1s hlen
   exact h.fin shipL (fun l n=>⟨rfl,rfl,rfl⟩) a
end Go.Proofs.YtgcedalggnmooabGreatDoor
