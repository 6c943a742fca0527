import Derived.Test.YtgcedalggnmooaaGreatDoorQ8X
import Derived.Test.YtgcedalggnmooaaGreatDoorR13X
import Derived.Test.YtgcedalggnmooaaGreatDoorQ11X
import Derived.Test.YtgcedalggnmooaaGreatDoorAn1X
set_option linter.unusedSimpArgs false
set_option linter.unusedVariables false
set_option maxRecDepth 100000
namespace Go.Proofs.YtgcedalggnmooaaGreatDoor
open Go.RowKit
theorem askR_any {rcs:List (Nat × Nat)} {Z:Nat→Prop} {w:World} {R td:Nat} {rec:ByteArray} {ls:List L} {os:List O} (h:RI os rcs Z w R td rec ls) (hgo:Good os ls) (gn cap:Nat) (id goods count gate way:Nat) (hn:NS w gn [id,goods,count,gate,way]) (h1:id≤2147483647) (h2:goods≤2147483647) (h3:count≤2147483647) (h4:gate≤2147483647) (h5:way≤3) :
  Calls Tryz.prog 69 #[.pointer (some ⟨R,0,none⟩),.slice (some ⟨gn,0,none⟩) 5 cap] w fun e w'=>Kp Z w w'∧RI (askO rcs os td ls id goods count gate way) rcs (Zn Z w) w' R td rec (askL rcs os td ls id goods count gate way) ∧
   ((askC rcs os td ls id goods count gate way≠0∧e=.returned (.tuple #[.slice none 0 0,.int .i64 (askC rcs os td ls id goods count gate way:Int)]))∨(askC rcs os td ls id goods count gate way=0∧∃ g c,e=.returned (.tuple #[.slice (some ⟨g,0,none⟩) (toldQ ls (linesQ rcs td goods count gate way ls)).length c,.int .i64 0])∧Rw w' g (toldQ ls (linesQ rcs td goods count gate way ls)))):=by
 obtain ⟨v,fs,ro,hP,hZ,hZv,hZo⟩:=h
 by_cases hc:askC rcs os td ls id goods count gate way=0
 ·obtain ⟨q1,q2,q3⟩:=askC_zero hc
  unfold askO askL
  rw [if_pos hc,if_pos hc]
  have hfin:∀ (e:Ending) (w':World),(Kp (fun b=>b=R∨v.ownBlock=some b∨ro.ov.ownBlock=some b) w w' ∧
   (∃ ro',RV (os++[⟨id,goods,linesId ls (linesQ rcs td goods count gate way ls)⟩]) rcs ro' w' R v td rec fs (holdS ls (linesQ rcs td goods count gate way ls))∧∀ b,OB ro' b→OB ro b∨w.heap.size≤b) ∧
   ∃ g c,e=.returned (.tuple #[.slice (some ⟨g,0,none⟩) (toldQ ls (linesQ rcs td goods count gate way ls)).length c,.int .i64 0])∧Rw w' g (toldQ ls (linesQ rcs td goods count gate way ls)))→Kp Z w w'∧RI (os++[⟨id,goods,linesId ls (linesQ rcs td goods count gate way ls)⟩]) rcs (Zn Z w) w' R td rec (holdS ls (linesQ rcs td goods count gate way ls)) ∧
   ((askC rcs os td ls id goods count gate way≠0∧e=.returned (.tuple #[.slice none 0 0,.int .i64 (askC rcs os td ls id goods count gate way:Int)]))∨(askC rcs os td ls id goods count gate way=0∧∃ g c,e=.returned (.tuple #[.slice (some ⟨g,0,none⟩) (toldQ ls (linesQ rcs td goods count gate way ls)).length c,.int .i64 0])∧Rw w' g (toldQ ls (linesQ rcs td goods count gate way ls)))):=by
   rintro e w' ⟨hk,⟨ro',hrv,hob⟩,g,c,he,hr⟩
   refine ⟨hk.mono (fun k hk=>?_),⟨v,fs,ro',hrv,Or.inl hZ,fun g hg=>Or.inl (hZv g hg),fun g hg=>(hob g hg).elim (fun h=>Or.inl (hZo g h)) Or.inr⟩,Or.inr ⟨hc,g,c,he,hr⟩⟩
   rcases hk with rfl | hk | hk
   ·exact hZ
   ·exact hZv k hk
   ·exact hZo k (Or.inl hk)
  by_cases hl:sumQ (linesQ rcs td goods count gate way ls)<count
  ·exact (askR_ok1 hP hgo gn cap id goods count gate way hn h1 h2 h3 h4 h5 q1 q2 hl q3).mono hfin
  ·exact (askR_ok2 hP hgo gn cap id goods count gate way hn h1 h2 h3 h4 h5 q1 q2 hl q3).mono hfin
 ·unfold askO askL
  rw [if_neg hc,if_neg hc]
  have hfin:∀ (w':World),Below w.heap.size w w'→Kp Z w w'∧RI os rcs (Zn Z w) w' R td rec ls:=fun w' hb=>⟨kpB hb,v,fs,ro,hP.below hb,Or.inl hZ,fun g hg=>Or.inl (hZv g hg),fun g hg=>Or.inl (hZo g hg)⟩
  by_cases hea:os.any (fun o=>o.id == id)=true∨10≤os.length
  ·refine (askR_early hP hgo gn cap id goods count gate way hn h1 hea).mono ?_
   rintro e w' ⟨he,rfl⟩
   exact ⟨(hfin _ (Below.refl _ _)).1,(hfin _ (Below.refl _ _)).2,Or.inl ⟨hc,he⟩⟩
  ·have q1:os.any (fun o=>o.id == id)=false:=by cases hq:os.any (fun o=>o.id == id) with
    | true=>exact absurd (Or.inl hq) hea
    | false=>rfl
   have q2:¬ 10≤os.length:=fun hq=>hea (Or.inr hq)
   have q3:sumQ (linesQ rcs td goods count gate way ls)=0∨(sumQ (linesQ rcs td goods count gate way ls)<count∧wayW way=true):=by
    apply Decidable.byContradiction
    intro hq
    apply hc
    unfold askC
    rw [q1,if_neg (by simp),if_neg q2,if_neg hq]
   have hc7:askC rcs os td ls id goods count gate way=7:=by unfold askC;rw [q1,if_neg (by simp),if_neg q2,if_pos q3]
   refine (askR_short hP hgo gn cap id goods count gate way hn h1 h2 h3 h4 h5 q1 q2 q3).mono ?_
   rintro e w' ⟨he,hb⟩
   exact ⟨(hfin w' hb).1,(hfin w' hb).2,Or.inl ⟨hc,by rw [hc7];exact he⟩⟩
set_option maxHeartbeats 1600000 in
theorem doesR_ask {Q:Ending→World→Prop} {w:World} {R:Nat} (gn cap:Nat)
  (HC:Hid (Calls Tryz.prog 69 #[.pointer (some ⟨R,0,none⟩),.slice (some ⟨gn,0,none⟩) 5 cap] w fun e w'=>∃ a l c n,e=.returned (.tuple #[.slice a l c,.int .i64 n])∧Q e w')) :
  Calls Tryz.prog 51 #[.pointer (some ⟨R,0,none⟩),.int .i64 5,.slice (some ⟨gn,0,none⟩) 5 cap] w Q:=by
 go_enter Tryz.func51,Tryz.ntmps51
 go_wp2_with (go_at_call 69;refine (HC.out).mono ?_;rintro e w1 ⟨a,l,c,n,rfl,hq⟩)
 exact hq
set_option maxHeartbeats 1600000 in
theorem hR_told {rcs:List (Nat × Nat)} {Z:Nat→Prop} {os:List O} (w:World) (R td:Nat) (rec:ByteArray) (hrec:rec.size≤1000000000000000) (ls:List L) (s:ByteArray) (hs:s.size≤2097143) (c:Nat) (hc10:c≤10) (ns:List Nat) (hc:Pl.cmd s.data.toList=.ok (c,ns)) (rs:List Nat) (hrs:∀ n ∈ rs,n<9223372036854775808) (hrl:rs.length≤100) (hr2:2≤rs.length)
  (HD:Hid (∀ w1,Below w.heap.size w w1→DoesAt R c ns w1 fun e w'=>Kp Z w1 w'∧RI os rcs (Zn Z w1) w' R td rec ls∧∃ g cp,e=.returned (.tuple #[.slice (some ⟨g,0,none⟩) rs.length cp,.int .i64 0])∧Rw w' g rs)) (hZ:Z R) :
  Calls Tryz.prog 37 #[.pointer (some ⟨R,0,none⟩),.string s] w fun e w'=>e=.returned (.string ⟨(0 :: Pl.toldB rs).toArray⟩)∧Kp Z w w'∧∃ rec',rec'=recF rec s∧RI os rcs (Zn Z w) w' R td rec' ls:=by
 have HC:=hide (command_ok s (by omega) w c ns hc)
 generalize hm:ns.length=m at HC
 have HM:=hide hm
 have hbd:=Pl.toldB_len rs hrs
 have HT:=hide (fun (b cp:Nat) (w:World) (hbw:b<w.heap.size) hc=>told_some b cp rs hrs (by omega) w hbw hc)
 obtain ⟨rl,HRL⟩:∃ rl,Hid (rl=rs.length):=⟨_,rfl⟩
 have HR2:=hide hr2
 rw [← HRL.out] at HD HT hrl hbd
 clear hc hm hrs hr2
 go_enter Tryz.func37,Tryz.ntmps37
 go_wp2_with fail
 refine (HC.out).mono ?_
 rintro e w1 ⟨hb1,gn,cap,rfl,hns⟩
 have HD1:=hide (HD.out w1 hb1 gn cap hns)
 rw [HM.out] at HD1
 clear hns
 go_wp2_with fail
 refine (HD1.out).mono ?_
 rintro e w2 ⟨hk,hri,g,cp,rfl,hrw⟩
 have HRW:=hide hrw
 clear hrw
 go_wp2_with fail
 refine (frame_fx s hs w2).mono ?_
 rintro e w3 ⟨hb3,f,rfl,hf,hfe⟩
 have HFE:=hide hfe
 clear hfe
 obtain ⟨v,fs,ro,hrv,hz1,hz2,hz3⟩:=hri
 have hrv3:=hrv.below hb3
 have c4:=hrv3.c4
 have f4:=blk_free hrv3.store 4
 have hgR:g≠R:=by
  intro e
  have h1:=HRW.out.2 1 HR2.out
  rw [e,hrv.c1] at h1
  obtain ⟨a,cp,hv⟩:=own_shape' hrv.row
  rw [hv] at h1
  cases h1
 have hRW4:∀ u,Rw (w3.setCell ⟨R,4,none⟩ u) g rs:=fun u=>by
  have hs4:(w3.setCell ⟨R,4,none⟩ u).heap[g]?=w2.heap[g]?:=(Below.heap_setCell _ _ _ _ hgR).trans (hb3.block g HRW.out.1)
  refine ⟨Nat.lt_of_lt_of_le HRW.out.1 (Nat.le_trans hb3.size (grownBy_setCell w3 ⟨R,4,none⟩ u).size),fun j hj=>(World.cell?_of_block (a:=⟨g,j,none⟩) hs4).trans (HRW.out.2 j hj)⟩
 have HT2:=hide (fun u=>HT.out g cp (w3.setCell ⟨R,4,none⟩ u) (hRW4 u).1 (by rw [HRL.out];exact (hRW4 u).2))
 have HRV:=hide hrv3
 clear hrv hrv3 hRW4 hgR
 go_wp2_with fail
 refine (HT2.out _).mono ?_
 rintro e w5 ⟨rfl,hb5⟩
 go_wp2_with fail
 go_ret
 refine ⟨ret_strB (ByteArray.mk_append_mk [0] (Pl.toldB rs)),?_,rec++f,?_,v,fs,ro,(HRV.out.recs _).below hb5,?_,?_,?_⟩
 ·exact ((Kp.before hb1 ((hk.after hb3).mono (fun k h=>Or.inl h))).setCell (p:=⟨R,4,none⟩) (Or.inl hZ) _).after hb5
 ·rw [HFE.out];rfl
 ·exact Or.inl hZ
 ·intro g hg
  rcases hz2 g hg with h | h
  ·exact Or.inl h
  ·exact Or.inr (Nat.le_trans hb1.size h)
 ·intro g hg
  rcases hz3 g hg with h | h
  ·exact Or.inl h
  ·exact Or.inr (Nat.le_trans hb1.size h)
end Go.Proofs.YtgcedalggnmooaaGreatDoor
namespace Go.Proofs.YtgcedalggnmooaaGreatDoor
open Go.RowKit
theorem endsR_cancel {rcs:List (Nat × Nat)} {Z:Nat→Prop} {w:World} {R td:Nat} {rec:ByteArray} {ls:List L} {os:List O} (h:RI os rcs Z w R td rec ls) (hgo:Good os ls) (a:Nat) (ha:a≤2147483647) :
  Calls Tryz.prog 70 #[.pointer (some ⟨R,0,none⟩),.int .i64 6,.int .i64 (a:Int)] w fun e w'=>Kp Z w w'∧e=.returned (.int .i64 (endC os a:Int))∧RI (os.filter (fun o=>o.id != a)) rcs (Zn Z w) w' R td rec (ls.map (finL freeL os a)):=by
 obtain ⟨v,fs,ro,hP,hZ,hZv,hZo⟩:=h
 by_cases hx:oix a os<os.length
 ·have hc:endC os a=0:=by unfold endC;rw [if_pos (oix_any.1 hx)]
  rw [hc]
  refine (ends_cancel hP hgo a ha hx).mono ?_
  rintro e w' ⟨he,hk,ro',hrv,hob⟩
  refine ⟨hk.mono (fun k hk=>?_),he,v,fs,ro',hrv,Or.inl hZ,fun g hg=>Or.inl (hZv g hg),fun g hg=>(hob g hg).elim (fun h=>Or.inl (hZo g h)) Or.inr⟩
  rcases hk with rfl | hk
  ·exact hZ
  ·exact hZv k hk
 ·have hany:os.any (fun o=>o.id == a)=false:=by
   cases hq:os.any (fun o=>o.id == a) with
   | true=>exact absurd (oix_any.2 hq) hx
   | false=>rfl
  have hc:endC os a=9:=by unfold endC;rw [hany];rfl
  obtain ⟨e1,e2⟩:=fin_none hany freeL ls
  rw [hc,e1,e2]
  refine (ends_none_cancel hP hgo a ha hx).mono ?_
  rintro e w' ⟨he,rfl⟩
  exact ⟨Kp.refl _ _,he,v,fs,ro,hP,Or.inl hZ,fun g hg=>Or.inl (hZv g hg),fun g hg=>Or.inl (hZo g hg)⟩
set_option maxHeartbeats 1600000 in
theorem doesR_cancel {rcs:List (Nat × Nat)} {Z:Nat→Prop} {w:World} {R td:Nat} {rec:ByteArray} {ls:List L} {os:List O} (h:RI os rcs Z w R td rec ls) (hgo:Good os ls) (gn cap:Nat) (a:Nat) (hn:NS w gn [a]) (ha:a≤2147483647) :
  Calls Tryz.prog 51 #[.pointer (some ⟨R,0,none⟩),.int .i64 6,.slice (some ⟨gn,0,none⟩) 1 cap] w fun e w'=>Kp Z w w'∧e=.returned (.tuple #[.slice none 0 0,.int .i64 (endC os a:Int)])∧RI (os.filter (fun o=>o.id != a)) rcs (Zn Z w) w' R td rec (ls.map (finL freeL os a)):=by
 have n0:w.cell? ⟨gn,0,none⟩=some (.int .i64 (a:Int)):=hn.2 0 (by simp)
 have HC:=hide (endsR_cancel h hgo a ha)
 generalize ls.map (finL freeL os a)=ls' at HC ⊢
 generalize os.filter (fun o=>o.id != a)=os' at HC ⊢
 generalize endC os a=rc at HC ⊢
 clear h hn hgo
 go_enter Tryz.func51,Tryz.ntmps51
 go_wp2_with (go_at_call 70;refine (HC.out).mono ?_;rintro e w1 ⟨hk,rfl,hri⟩)
 go_ret2
 exact ⟨hk,rfl,hri⟩
theorem endsR_ship {rcs:List (Nat × Nat)} {Z:Nat→Prop} {w:World} {R td:Nat} {rec:ByteArray} {ls:List L} {os:List O} (h:RI os rcs Z w R td rec ls) (hgo:Good os ls) (a:Nat) (ha:a≤2147483647) :
  Calls Tryz.prog 70 #[.pointer (some ⟨R,0,none⟩),.int .i64 7,.int .i64 (a:Int)] w fun e w'=>Kp Z w w'∧e=.returned (.int .i64 (endC os a:Int))∧RI (os.filter (fun o=>o.id != a)) rcs (Zn Z w) w' R td rec (ls.map (finL shipL os a)):=by
 obtain ⟨v,fs,ro,hP,hZ,hZv,hZo⟩:=h
 by_cases hx:oix a os<os.length
 ·have hc:endC os a=0:=by unfold endC;rw [if_pos (oix_any.1 hx)]
  rw [hc]
  refine (ends_ship hP hgo a ha hx).mono ?_
  rintro e w' ⟨he,hk,ro',hrv,hob⟩
  refine ⟨hk.mono (fun k hk=>?_),he,v,fs,ro',hrv,Or.inl hZ,fun g hg=>Or.inl (hZv g hg),fun g hg=>(hob g hg).elim (fun h=>Or.inl (hZo g h)) Or.inr⟩
  rcases hk with rfl | hk
  ·exact hZ
  ·exact hZv k hk
 ·have hany:os.any (fun o=>o.id == a)=false:=by
   cases hq:os.any (fun o=>o.id == a) with
   | true=>exact absurd (oix_any.2 hq) hx
   | false=>rfl
  have hc:endC os a=9:=by unfold endC;rw [hany];rfl
  obtain ⟨e1,e2⟩:=fin_none hany shipL ls
  rw [hc,e1,e2]
  refine (ends_none_ship hP hgo a ha hx).mono ?_
  rintro e w' ⟨he,rfl⟩
  exact ⟨Kp.refl _ _,he,v,fs,ro,hP,Or.inl hZ,fun g hg=>Or.inl (hZv g hg),fun g hg=>Or.inl (hZo g hg)⟩
set_option maxHeartbeats 1600000 in
theorem doesR_ship {rcs:List (Nat × Nat)} {Z:Nat→Prop} {w:World} {R td:Nat} {rec:ByteArray} {ls:List L} {os:List O} (h:RI os rcs Z w R td rec ls) (hgo:Good os ls) (gn cap:Nat) (a:Nat) (hn:NS w gn [a]) (ha:a≤2147483647) :
  Calls Tryz.prog 51 #[.pointer (some ⟨R,0,none⟩),.int .i64 7,.slice (some ⟨gn,0,none⟩) 1 cap] w fun e w'=>Kp Z w w'∧e=.returned (.tuple #[.slice none 0 0,.int .i64 (endC os a:Int)])∧RI (os.filter (fun o=>o.id != a)) rcs (Zn Z w) w' R td rec (ls.map (finL shipL os a)):=by
 have n0:w.cell? ⟨gn,0,none⟩=some (.int .i64 (a:Int)):=hn.2 0 (by simp)
 have HC:=hide (endsR_ship h hgo a ha)
 generalize ls.map (finL shipL os a)=ls' at HC ⊢
 generalize os.filter (fun o=>o.id != a)=os' at HC ⊢
 generalize endC os a=rc at HC ⊢
 clear h hn hgo
 go_enter Tryz.func51,Tryz.ntmps51
 go_wp2_with (go_at_call 70;refine (HC.out).mono ?_;rintro e w1 ⟨hk,rfl,hri⟩)
 go_ret2
 exact ⟨hk,rfl,hri⟩
theorem toldQ_two {rcs:List (Nat × Nat)} {os:List O} {td:Nat} {ls:List L} {id goods count gate way:Nat} (h:askC rcs os td ls id goods count gate way=0):2≤(toldQ ls (linesQ rcs td goods count gate way ls)).length:=by
 obtain ⟨_,_,h3⟩:=askC_zero h
 cases hq:linesQ rcs td goods count gate way ls with
 | nil=>rw [hq] at h3;exact absurd (Or.inl rfl) h3
 | cons p r=>simp [toldQ,toldL]
theorem hR_order {rcs:List (Nat × Nat)} {Z:Nat→Prop} {w:World} {R td:Nat} {rec:ByteArray} {ls:List L} {os:List O} (h:RI os rcs Z w R td rec ls) (hgo:Good os ls) (hrec:rec.size≤1000000000000000) (s:ByteArray) (hs:s.size≤2097143) (a b c d f:Nat) (hcf:Pl.cmd s.data.toList=.ok (5,[a,b,c,d,f])) (h1:a≤2147483647) (h2:b≤2147483647) (h3:c≤2147483647) (h4:d≤2147483647) (h5:f≤3) :
  Calls Tryz.prog 37 #[.pointer (some ⟨R,0,none⟩),.string s] w fun e w'=>e=.returned (.string ⟨(askR rcs os td ls a b c d f).toArray⟩)∧Kp Z w w'∧∃ rec',RecX rec s rec' (askR rcs os td ls a b c d f)∧RI (askO rcs os td ls a b c d f) rcs (Zn Z w) w' R td rec' (askL rcs os td ls a b c d f):=by
 have hZR:Z R:=by obtain ⟨v,fs,ro,_,hz,_⟩:=h;exact hz
 have hs':s.size≤2097152:=by omega
 have HD:=fun (w1:World) (hb1:Below w.heap.size w w1) (gn cap:Nat) (hn:NS w1 gn [a,b,c,d,f])=>askR_any (h.below hb1) hgo gn cap a b c d f hn h1 h2 h3 h4 h5
 by_cases h0:askC rcs os td ls a b c d f=0
 ·have hlo:∀ x ∈ ls,L.Ok x:=by obtain ⟨v,fs,ro,hP,_⟩:=h;exact hP.ok
  have hlr:ls.length≤30:=by obtain ⟨v,fs,ro,hP,_⟩:=h;exact hP.room
  have hts:=toldQ_small (rcs:=rcs) hlo hlr td b c d f
  have e1:askR rcs os td ls a b c d f=0 :: Pl.toldB (toldQ ls (linesQ rcs td b c d f ls)):=by unfold askR;rw [if_pos h0]
  rw [e1]
  refine (hR_told (os:=askO rcs os td ls a b c d f) (rcs:=rcs) w R td rec hrec (askL rcs os td ls a b c d f) s hs 5 (by omega) [a,b,c,d,f] hcf (toldQ ls (linesQ rcs td b c d f ls)) hts.1 (by omega) (toldQ_two (rcs:=rcs) h0) (hide (fun w1 hb1 gn cap hn=>?_)) hZR).mono ?_
  ·refine doesR_ask gn cap (hide ((HD w1 hb1 gn cap hn).mono ?_))
   rintro e w' ⟨hk,hri,hq⟩
   rcases hq with ⟨hne,_⟩ | ⟨_,g,cp,he,hr⟩
   ·exact absurd h0 hne
   ·exact ⟨_,_,_,_,he,hk,hri,g,cp,he,hr⟩
  ·rintro e w' ⟨q1,q2,rec',q3,q4⟩
   exact ⟨q1,q2,rec',RecX.yes hcf (by omega) q3 hs rfl,q4⟩
 ·have hrc:=askC_le (rcs:=rcs) os td ls a b c d f
  have e1:askR rcs os td ls a b c d f=[UInt8.ofNat (askC rcs os td ls a b c d f)]:=by unfold askR;rw [if_neg h0]
  rw [e1]
  refine (hR_err w R s hs' 5 [a,b,c,d,f] hcf (askC rcs os td ls a b c d f) (by omega) (by omega) (fun w2=>Kp Z w w2∧RI (askO rcs os td ls a b c d f) rcs (Zn Z w) w2 R td rec (askL rcs os td ls a b c d f)) (hide (fun w1 hb1 gn cap hn=>?_))).mono ?_
  ·refine doesR_ask gn cap (hide ((HD w1 hb1 gn cap hn).mono ?_))
   rintro e w' ⟨hk,hri,hq⟩
   rcases hq with ⟨_,he⟩ | ⟨hz,_⟩
   ·exact ⟨_,_,_,_,he,he,Kp.before hb1 (hk.mono (fun k h=>Or.inl h)),hri.mono (fun k hk=>hk.elim Or.inl (fun h=>Or.inr (Nat.le_trans hb1.size h)))⟩
   ·exact absurd hz h0
  ·rintro e w' ⟨q1,w2,⟨q2,q3⟩,hb2⟩
   exact ⟨q1,q2.after hb2,rec,RecX.no1 (ofNat_ne0 h0 (by omega)),q3.below hb2⟩
end Go.Proofs.YtgcedalggnmooaaGreatDoor
namespace Go.Proofs.YtgcedalggnmooaaGreatDoor
open Go.RowKit
theorem handleRO_any {rcs:List (Nat × Nat)} {Z:Nat→Prop} {w:World} {R td:Nat} {rec:ByteArray} {ls:List L} {os:List O} (h:RI os rcs Z w R td rec ls) (hgo:Good os ls) (hrec:rec.size≤1000000000000000) (s:ByteArray) (hs:s.size≤2097143) (hp:PlayedO (Pl.cmd s.data.toList)) :
  Calls Tryz.prog 37 #[.pointer (some ⟨R,0,none⟩),.string s] w fun e w'=>e=.returned (.string ⟨(stepO rcs td os ls (Pl.cmd s.data.toList)).1.toArray⟩)∧Kp Z w w'∧∃ rec',RecX rec s rec' (stepO rcs td os ls (Pl.cmd s.data.toList)).1∧RI (stepO rcs td os ls (Pl.cmd s.data.toList)).2.2.1 rcs (Zn Z w) w' R (stepO rcs td os ls (Pl.cmd s.data.toList)).2.1 rec' (stepO rcs td os ls (Pl.cmd s.data.toList)).2.2.2:=by
 have hZR:Z R:=by obtain ⟨v,fs,ro,_,hz,_⟩:=h;exact hz
 rcases playedO_or hp with hold | ⟨c,ns,hform,hm,hcf,h3,hlen,hlt⟩
 ·rw [stepO_old hold];exact handleRT_any h hrec s hs hold
 ·rw [hcf]
  rcases h3 with rfl | rfl | rfl
  ·obtain ⟨a,b,c,d,f,rfl⟩:=len5' hlen
   have hd:a≤2147483647∧b≤2147483647∧c≤2147483647∧d≤2147483647∧f≤3:=by simp [Pl.mays,Pl.kindsL,Pl.mayB] at hm;omega
   exact hR_order h hgo hrec s hs a b c d f hcf hd.1 hd.2.1 hd.2.2.1 hd.2.2.2.1 hd.2.2.2.2
  ·obtain ⟨a,rfl⟩:=len1' hlen
   have hd:a≤2147483647:=by simp [Pl.mays,Pl.kindsL,Pl.mayB] at hm;omega
   exact hR_code hZR hrec s hs 6 (by omega) [a] hcf (endC os a) (endC_le _ _) (ls.map (finL freeL os a)) (fun w1 hb1 gn cap hn=>doesR_cancel (h.below hb1) hgo gn cap a hn hd)
  ·obtain ⟨a,rfl⟩:=len1s hlen
   have hd:a≤2147483647:=by simp [Pl.mays,Pl.kindsL,Pl.mayB] at hm;omega
   exact hR_code hZR hrec s hs 7 (by omega) [a] hcf (endC os a) (endC_le _ _) (ls.map (finL shipL os a)) (fun w1 hb1 gn cap hn=>doesR_ship (h.below hb1) hgo gn cap a hn hd)
end Go.Proofs.YtgcedalggnmooaaGreatDoor
