import Derived.Test.YtgcedalggnmooabGreatDoorMp0X
import Derived.Handy
import Derived.Deep.RegionHeld3
set_option linter.unusedSimpArgs false
set_option linter.unusedVariables false
set_option maxRecDepth 100000
namespace Go.Proofs.YtgcedalggnmooabGreatDoor
open Go.RowKit
def gaveL (l:L) (n:Nat):L:={ l with free:=l.free - n,given:=l.given+n }
def scrapL (l:L) (n:Nat):L:={ l with free:=l.free - n,scrapped:=l.scrapped+n }
def giveW (w:World) (b:Nat) (l:L) (n:Nat):World :=
 ((w.setCell ⟨b,6,none⟩ (.int .i64 ((l.free:Int) - (n:Int)))).setCell ⟨b,10,none⟩ (.int .i64 ((l.given:Int)+(n:Int)))).alloc (.cells #[.int .i64 (l.id:Int),.int .i64 (n:Int)] 156)
theorem giveW_size (w:World) (b:Nat) (l:L) (n:Nat):(giveW w b l n).heap.size=w.heap.size+1:=by simp [giveW,World.setCell]
theorem giveW_self {w:World} {b:Nat} {l:L} {pv:Value} (hb:w.heap[b]?=some (.cells (lotCells l pv) 153 (0,0))) (n:Nat) (hn:n≤l.free) :
  (giveW w b l n).heap[b]?=some (.cells (lotCells (gaveL l n) pv) 153 (0,0)):=by
 have h1:=heap_setCell_same w b 6 _ 153 (.int .i64 ((l.free:Int) - (n:Int))) hb
 have h2:=heap_setCell_same _ b 10 _ 153 (.int .i64 ((l.given:Int)+(n:Int))) h1
 rw [giveW,Below.heap_alloc _ _ _ (blk_lt h2),h2]
 have e1:((l.free - n:Nat):Int)=(l.free:Int) - (n:Int):=by omega
 have e2:((l.given+n:Nat):Int)=(l.given:Int)+(n:Int):=by omega
 simp [lotCells,gaveL,e1,e2]
theorem giveW_other {w:World} {b:Nat} {l:L} {n k:Nat} (hk:k<w.heap.size) (hne:k≠b):(giveW w b l n).heap[k]?=w.heap[k]?:=by
 rw [giveW,Below.heap_alloc _ _ _ (by simp [World.setCell];exact hk),Below.heap_setCell _ _ _ _ hne,Below.heap_setCell _ _ _ _ hne]
theorem giveW_kp {Z:Nat→Prop} (w:World) (b:Nat) (l:L) (n:Nat) (hb:Z b):Kp Z w (giveW w b l n):=by
 refine Kp.after (Kp.setCell (Kp.setCell (Kp.refl Z w) ?_ _) ?_ _) (al1 _ _)
 ·exact Or.inl hb
 ·exact Or.inl hb
set_option maxHeartbeats 800000 in
theorem give_any {w:World} {b:Nat} {l:L} {pv:Value} (hb:w.heap[b]?=some (.cells (lotCells l pv) 153 (0,0))) (hok:L.Ok l) (n:Nat) (hn:n≤l.free) :
  Calls Tryz.prog 78 #[.pointer (some ⟨b,0,none⟩),.int .i64 (n:Int)] w fun e w'=>e=.returned (.agg #[.int .i64 (l.id:Int),.int .i64 (n:Int)])∧w'=giveW w b l n:=by
 have hlt:=blk_lt hb
 have c0:w.cell? ⟨b,0,none⟩=some (.int .i64 (l.id:Int)):=by rw [blk_cell hb];rfl
 have c6:w.cell? ⟨b,6,none⟩=some (.int .i64 (l.free:Int)):=by rw [blk_cell hb];rfl
 have c10:w.cell? ⟨b,10,none⟩=some (.int .i64 (l.given:Int)):=by rw [blk_cell hb];rfl
 have f6:=blk_free hb 6
 have f10:=blk_free hb 10
 have hid:=hok.id
 have hsum:=hok.sum
 have hfr:l.free≤2147483647:=by omega
 have hgv:l.given+n≤2147483647:=by omega
 have HB:=hide hb
 clear hb hsum hok
 go_enter Tryz.func78,Tryz.ntmps78
 go_wp2_with fail
 go_returns
 exact ⟨rfl,rfl⟩
theorem PV.lotset {rcs:List (Nat × Nat)} {w W:World} {S:Nat} {M:Mx} {v:Value} {td:Nat} {bs:List Nat} {pvs:List Value} {ls:List L} {os:List O} (h:PV os rcs w S M v td bs pvs ls) {i:Nat} (hi:i<ls.length) {l':L} (hl:L.Ok l') (hpr:l'.par=(ls.getD i L0).par)
  (hb:W.heap[bs.getD i 0]?=some (.cells (lotCells l' (pvs.getD i default)) 153 (0,0))) (hq:∀ k,k<w.heap.size→k≠bs.getD i 0→W.heap[k]?=w.heap[k]?):PV os rcs W S M v td bs pvs (ls.set i l') := {
 store:=by rw [hq S (blk_lt h.store) (ty_ne h.store (h.lot i hi) (by decide))];exact h.store
 maps:=h.maps.congr (fun k es c hk=>hq k (blk_lt hk) (map_ne (h.lot i hi) hk).symm)
 row:=own_congr h.row (fun g hg=>by
  obtain ⟨cs,hc⟩:=own_ty h.row hg
  exact hq g (blk_lt hc) (ty_ne (h.lot i hi) hc (by decide)).symm)
 len:=by rw [List.length_set];exact h.len
 plen:=by rw [List.length_set];exact h.plen
 lot:=fun j hj=>by
  rw [List.length_set] at hj
  by_cases hij:j=i
  ·subst hij
   rw [hb]
   simp [List.getD_eq_getElem?_getD,List.getElem?_set,hj]
  ·have hne:bs.getD j 0≠bs.getD i 0:=fun e=>hij (by
    have hjb:j<bs.length:=by rw [h.len];exact hj
    have hib:i<bs.length:=by rw [h.len];exact hi
    rw [List.getD_eq_getElem?_getD,List.getD_eq_getElem?_getD,List.getElem?_eq_getElem hjb,List.getElem?_eq_getElem hib] at e
    simp only [Option.getD_some] at e
    exact (List.getElem?_inj hjb h.nodup).1 (by rw [List.getElem?_eq_getElem hjb,List.getElem?_eq_getElem hib,e]))
   rw [hq _ (blk_lt (h.lot j hj)) hne,h.lot j hj]
   simp [List.getD_eq_getElem?_getD,List.getElem?_set,Ne.symm hij]
 par:=fun j hj=>by
  rw [List.length_set] at hj
  have e:((ls.set i l').getD j L0).par=(ls.getD j L0).par:=by
   by_cases hij:j=i
   ·subst hij
    rw [← hpr];simp [List.getD_eq_getElem?_getD,List.getElem?_set,hj]
   ·simp [List.getD_eq_getElem?_getD,List.getElem?_set,Ne.symm hij]
  rw [e]
  exact (h.par j hj).congr (fun q hq'=>by
   obtain ⟨cs,h3⟩:=(h.par j hj).blk hq'
   exact hq _ (blk_lt h3) (ty_ne (h.lot i hi) h3 (by decide)).symm)
 nodup:=h.nodup
 today:=h.today
 ok:=fun l hm=>by
  rcases List.mem_or_eq_of_mem_set hm with h1 | h1
  ·exact h.ok l h1
  ·subst h1;exact hl
 room:=by rw [List.length_set];exact h.room }
theorem gaveL_ok {l:L} (h:L.Ok l) {n:Nat} (hn:n≤l.free):L.Ok (gaveL l n):=⟨h.id,h.goods,h.expiry,h.place,(by have:=h.sum;show l.free - n+l.held+l.shipped+l.scrapped+(l.given+n)≤2147483647;omega),h.got,h.par⟩
theorem scrapL_ok {l:L} (h:L.Ok l) {n:Nat} (hn:n≤l.free):L.Ok (scrapL l n):=⟨h.id,h.goods,h.expiry,h.place,(by have:=h.sum;show l.free - n+l.held+l.shipped+(l.scrapped+n)+l.given≤2147483647;omega),h.got,h.par⟩
def scrapC (ls:List L) (n c:Nat):Nat:=if idx n ls<ls.length then (if (ls.getD (idx n ls) L0).free<c then 7 else 0) else 4
def scrapS (ls:List L) (n c:Nat):List L:=if scrapC ls n c=0 then ls.set (idx n ls) (scrapL (ls.getD (idx n ls) L0) c) else ls
set_option maxHeartbeats 1600000 in
theorem scrap_any {rcs:List (Nat × Nat)} {Z:Nat→Prop} {w:World} {S td:Nat} {ls:List L} {os:List O} (h:PI os rcs Z w S td ls) (n c:Nat) (h1:n≤2147483647) (h2:c≤2147483647) :
  Calls Tryz.prog 56 #[.pointer (some ⟨S,0,none⟩),.agg #[.int .i64 (n:Int),.int .i64 (c:Int)]] w fun e w'=>Kp Z w w'∧e=.returned (.int .i64 (scrapC ls n c:Int))∧PI os rcs (Zn Z w) w' S td (scrapS ls n c):=by
 obtain ⟨M,v,bs,pvs,hP,hin⟩:=h
 have hP1:=hP.below (al1 w (Obj.cells #[.int .i64 (n:Int),.int .i64 (c:Int)] 111))
 have HR:=hide (find_any hP1 n h1)
 by_cases hi:idx n ls<ls.length
 ·have HF:Hid (findV bs ls n=.pointer (some ⟨bs.getD (idx n ls) 0,0,none⟩)):=by unfold Hid findV;rw [if_pos hi]
  rw [HF.out] at HR
  have hlot:=hP.lot _ hi
  have hlt:=blk_lt hlot
  have hok:=hP.ok _ (mem_getD hi)
  have hlt0:bs.getD (idx n ls) 0 ∈ bs:=getD_mem_nat (by rw [hP.len];exact hi)
  have hZb:Z (bs.getD (idx n ls) 0):=hin.b _ hlt0
  obtain ⟨l,HL⟩:∃ l,Hid (l=ls.getD (idx n ls) L0):=⟨_,rfl⟩
  rw [← HL.out] at hlot hok
  by_cases hs:l.free<c
  ·have HC:Hid (scrapC ls n c=7):=by unfold Hid scrapC;rw [if_pos hi,← HL.out,if_pos hs]
   have HS:Hid (scrapS ls n c=ls):=by unfold Hid scrapS;rw [HC.out];rfl
   generalize pvs.getD (idx n ls) default=pv at hlot
   generalize bs.getD (idx n ls) 0=b at *
   have c6:w.cell? ⟨b,6,none⟩=some (.int .i64 (l.free:Int)):=by rw [blk_cell hlot];rfl
   have hsum:=hok.sum
   have hfr:l.free≤2147483647:=by omega
   have HP:=hide hP1
   clear hP hP1 hlot hok hsum
   go_enter Tryz.func56,Tryz.ntmps56
   go_wp2_with (go_at_call 77;refine (HR.out).mono ?_;rintro e w1 ⟨rfl,rfl⟩)
   go_region
   go_wp2_with fail
   go_ret
   refine ⟨kpB ((al1 w _).drew),by rw [HC.out];rfl,M,v,bs,pvs,?_,hin.mono (fun k hk=>Or.inl hk)⟩
   rw [HS.out]
   exact HP.out.below (Below.refl _ _).drew
  ·have HC:Hid (scrapC ls n c=0):=by unfold Hid scrapC;rw [if_pos hi,← HL.out,if_neg hs]
   have HS:Hid (scrapS ls n c=ls.set (idx n ls) (scrapL l c)):=by unfold Hid scrapS;rw [HC.out,← HL.out];rfl
   have HP:=hide hP
   have HI:=hide hi
   generalize hpv:pvs.getD (idx n ls) default=pv at hlot
   have HPV:=hide hpv
   clear hpv
   obtain ⟨b,HB⟩:∃ b,Hid (b=bs.getD (idx n ls) 0):=⟨_,rfl⟩
   rw [← HB.out] at hlot HR HF hlt hZb
   have c6:w.cell? ⟨b,6,none⟩=some (.int .i64 (l.free:Int)):=by rw [blk_cell hlot];rfl
   have c9:w.cell? ⟨b,9,none⟩=some (.int .i64 (l.scrapped:Int)):=by rw [blk_cell hlot];rfl
   have f6:=blk_free hlot 6
   have f9:=blk_free hlot 9
   have HO:=hide hok
   have HLo:=hide hlot
   have hsum:=hok.sum
   have hfr:l.free≤2147483647:=by omega
   have hsc:l.scrapped+c≤2147483647:=by omega
   clear hP hP1 hlot hok hsum hi hlt0 HF
   go_enter Tryz.func56,Tryz.ntmps56
   go_wp2_with (go_at_call 77;refine (HR.out).mono ?_;rintro e w1 ⟨rfl,rfl⟩)
   go_region
   go_wp2_with fail
   go_region
   go_wp2_with fail
   go_region
   go_wp2_with fail
   go_ret
   have hs1:=heap_setCell_same w b 6 _ 153 (.int .i64 ((l.free:Int) - (c:Int))) HLo.out
   have hs2:=heap_setCell_same _ b 9 _ 153 (.int .i64 ((l.scrapped:Int)+(c:Int))) hs1
   have hcells:((w.setCell ⟨b,6,none⟩ (.int .i64 ((l.free:Int) - (c:Int)))).setCell ⟨b,9,none⟩ (.int .i64 ((l.scrapped:Int)+(c:Int)))).heap[b]?=some (.cells (lotCells (scrapL l c) pv) 153 (0,0)):=by
    rw [hs2]
    have e1:((l.free - c:Nat):Int)=(l.free:Int) - (c:Int):=by omega
    have e2:((l.scrapped+c:Nat):Int)=(l.scrapped:Int)+(c:Int):=by omega
    simp [lotCells,scrapL,e1,e2]
   refine ⟨?_,by rw [HC.out];rfl,M,v,bs,pvs,?_,hin.mono (fun k hk=>Or.inl hk)⟩
   ·refine Kp.after (Kp.setCell (Kp.setCell (Kp.refl Z w) ?_ _) ?_ _) (((al1 _ _).drew).drew).drew
    ·exact Or.inl hZb
    ·exact Or.inl hZb
   ·rw [HS.out]
    have hset:=HP.out.lotset (W:=(w.setCell ⟨b,6,none⟩ (.int .i64 ((l.free:Int) - (c:Int)))).setCell ⟨b,9,none⟩ (.int .i64 ((l.scrapped:Int)+(c:Int)))) HI.out (l':=scrapL l c) (scrapL_ok HO.out (by omega)) (by rw [HL.out];rfl) (by rw [HPV.out,← HB.out];exact hcells) (fun k _ hne=>by
     rw [← HB.out] at hne
     rw [Below.heap_setCell _ _ _ _ hne,Below.heap_setCell _ _ _ _ hne])
    exact hset.below (((al1 _ _).drew).drew).drew
 ·have HF:Hid (findV bs ls n=.pointer none):=by unfold Hid findV;rw [if_neg hi]
  have HC:Hid (scrapC ls n c=4):=by unfold Hid scrapC;rw [if_neg hi]
  have HS:Hid (scrapS ls n c=ls):=by unfold Hid scrapS;rw [HC.out];rfl
  rw [HF.out] at HR
  have HP:=hide hP1
  clear hP hP1 hi HF
  go_enter Tryz.func56,Tryz.ntmps56
  go_wp2_with (go_at_call 77;refine (HR.out).mono ?_;rintro e w1 ⟨rfl,rfl⟩)
  go_ret
  refine ⟨kpB (al1 w _),by rw [HC.out];rfl,M,v,bs,pvs,?_,hin.mono (fun k hk=>Or.inl hk)⟩
  rw [HS.out]
  exact HP.out
end Go.Proofs.YtgcedalggnmooabGreatDoor
namespace Go.Proofs.YtgcedalggnmooabGreatDoor
open Go.RowKit
def mkL (ls:List L) (id goods expiry got:Nat) (ps:List (Nat × Nat)):L:={ id:=id,goods:=goods,expiry:=expiry,place:=ls.length+1,got:=got,free:=got,held:=0,shipped:=0,scrapped:=0,given:=0,par:=ps }
def splitC (ls:List L) (n m c:Nat):Nat:=if idx n ls<ls.length then (if roomC ls m=0 then (if (ls.getD (idx n ls) L0).free<c then 7 else 0) else roomC ls m) else 4
def splitS (ls:List L) (n m c:Nat):List L :=
 if splitC ls n m c=0 then ls.set (idx n ls) (gaveL (ls.getD (idx n ls) L0) c)++[mkL ls m (ls.getD (idx n ls) L0).goods (ls.getD (idx n ls) L0).expiry c [((ls.getD (idx n ls) L0).id,c)]] else ls
theorem roomC_le (ls:List L) (n:Nat):roomC ls n≤6:=by unfold roomC;split <;> (try split) <;> omega
theorem roomC_len {ls:List L} {n:Nat} (h:roomC ls n=0):ls.length<30:=by
 unfold roomC at h
 by_cases hq:30≤ls.length
 ·split at h
  ·omega
  ·omega
 ·omega
set_option maxHeartbeats 1600000 in
theorem split_no {rcs:List (Nat × Nat)} {Z:Nat→Prop} {w:World} {S td:Nat} {ls:List L} {os:List O} (h:PI os rcs Z w S td ls) (n m c:Nat) (h1:n≤2147483647) (h2:m≤2147483647) (h3:c≤2147483647) (hc:splitC ls n m c≠0) :
  Calls Tryz.prog 49 #[.pointer (some ⟨S,0,none⟩),.agg #[.int .i64 (n:Int),.int .i64 (m:Int),.int .i64 (c:Int)]] w fun e w'=>e=.returned (.int .i64 (splitC ls n m c:Int))∧Below w.heap.size w w':=by
 obtain ⟨M,v,bs,pvs,hP,hin⟩:=h
 have hP1:=hP.below (al1 w (Obj.cells #[.int .i64 (n:Int),.int .i64 (m:Int),.int .i64 (c:Int)] 92))
 have HR:=hide (find_any hP1 n h1)
 have HM:=hide (room_any hP1 m h2)
 have hrle:=roomC_le ls m
 by_cases hi:idx n ls<ls.length
 ·have HF:Hid (findV bs ls n=.pointer (some ⟨bs.getD (idx n ls) 0,0,none⟩)):=by unfold Hid findV;rw [if_pos hi]
  rw [HF.out] at HR
  have hlot:=hP.lot _ hi
  have hok:=hP.ok _ (mem_getD hi)
  generalize bs.getD (idx n ls) 0=b at *
  by_cases hr:roomC ls m=0
  ·have hs:(ls.getD (idx n ls) L0).free<c:=by
    unfold splitC at hc
    rw [if_pos hi,if_pos hr] at hc
    by_cases hq:(ls.getD (idx n ls) L0).free<c
    ·exact hq
    ·rw [if_neg hq] at hc;exact absurd rfl hc
   have HC:Hid (splitC ls n m c=7):=by unfold Hid splitC;rw [if_pos hi,if_pos hr,if_pos hs]
   rw [HC.out]
   rw [hr] at HM
   generalize pvs.getD (idx n ls) default=pv at *
   generalize ls.getD (idx n ls) L0=l at *
   have c6:w.cell? ⟨b,6,none⟩=some (.int .i64 (l.free:Int)):=by rw [blk_cell hlot];rfl
   have hlt:=blk_lt hlot
   have hsum:=hok.sum
   have hfr:l.free≤2147483647:=by omega
   clear hP hP1 hlot hok hsum hi hr hrle hc HF HC
   go_enter Tryz.func49,Tryz.ntmps49
   go_wp2_with (first
    | (go_at_call 77;refine (HR.out).mono ?_;rintro e w1 ⟨rfl,rfl⟩)
    | (go_at_call 75;refine (HM.out).mono ?_;rintro e w1 ⟨rfl,rfl⟩))
   go_region
   go_wp2_with fail
   go_ret
   exact ⟨rfl,(al1 w _).drew⟩
  ·have HC:Hid (splitC ls n m c=roomC ls m):=by unfold Hid splitC;rw [if_pos hi,if_neg hr]
   rw [HC.out]
   have hrb:((roomC ls m:Int) != 0)=true:=by rw [bne_iff_ne];omega
   generalize roomC ls m=rc at *
   clear hP hP1 hlot hok hi hr hc HF HC
   go_enter Tryz.func49,Tryz.ntmps49
   go_wp2_with (first
    | (go_at_call 77;refine (HR.out).mono ?_;rintro e w1 ⟨rfl,rfl⟩)
    | (go_at_call 75;refine (HM.out).mono ?_;rintro e w1 ⟨rfl,rfl⟩))
   go_ret
   exact ⟨rfl,al1 w _⟩
 ·have HF:Hid (findV bs ls n=.pointer none):=by unfold Hid findV;rw [if_neg hi]
  have HC:Hid (splitC ls n m c=4):=by unfold Hid splitC;rw [if_neg hi]
  rw [HF.out] at HR
  rw [HC.out]
  clear hP hP1 hi HF hrle
  go_enter Tryz.func49,Tryz.ntmps49
  go_wp2_with (go_at_call 77;refine (HR.out).mono ?_;rintro e w1 ⟨rfl,rfl⟩)
  go_ret
  exact ⟨rfl,al1 w _⟩
theorem Kp.cell {Z:Nat→Prop} {w w':World} (h:Kp Z w w') {b j:Nat} {x:Value} (hz:¬ Z b) (hb:b<w.heap.size) (hc:w.cell? ⟨b,j,none⟩=some x):w'.cell? ⟨b,j,none⟩=some x:=by
 rw [← hc];unfold World.cell?;simp only [h.block b hb hz]
theorem PV.apart {rcs:List (Nat × Nat)} {w:World} {S:Nat} {M:Mx} {v:Value} {td:Nat} {bs:List Nat} {pvs:List Value} {ls:List L} {os:List O} (h:PV os rcs w S M v td bs pvs ls) {b:Nat} {cs:Array Value} {t:TypeId} (hb:w.heap[b]?=some (.cells cs t (0,0))) (h1:t≠80) (h2:t≠129):¬ (b=S∨v.ownBlock=some b):=by
 rintro (e | e)
 ·exact ty_ne hb h.store h1 e
 ·obtain ⟨cs',hc⟩:=own_ty h.row e
  exact ty_ne hb hc h2 rfl
set_option maxHeartbeats 1600000 in
theorem split_yes {rcs:List (Nat × Nat)} {Z:Nat→Prop} {w:World} {S td:Nat} {ls:List L} {os:List O} (h:PI os rcs Z w S td ls) (n m c:Nat) (h1:n≤2147483647) (h2:m≤2147483647) (h3:c≤2147483647) (hi:idx n ls<ls.length) (hr:roomC ls m=0) (hs:¬ (ls.getD (idx n ls) L0).free<c) :
  Calls Tryz.prog 49 #[.pointer (some ⟨S,0,none⟩),.agg #[.int .i64 (n:Int),.int .i64 (m:Int),.int .i64 (c:Int)]] w fun e w'=>Kp Z w w'∧e=.returned (.int .i64 0) ∧
   PI os rcs (Zn Z w) w' S td (ls.set (idx n ls) (gaveL (ls.getD (idx n ls) L0) c)++[mkL ls m (ls.getD (idx n ls) L0).goods (ls.getD (idx n ls) L0).expiry c [((ls.getD (idx n ls) L0).id,c)]]):=by
 obtain ⟨M,v,bs,pvs,hP,hin⟩:=h
 have hP1:=hP.below (al1 w (Obj.cells #[.int .i64 (n:Int),.int .i64 (m:Int),.int .i64 (c:Int)] 92))
 have HR:=hide (find_any hP1 n h1)
 have HM:=hide (room_any hP1 m h2)
 have hl30:=roomC_len hr
 have HF:Hid (findV bs ls n=.pointer (some ⟨bs.getD (idx n ls) 0,0,none⟩)):=by unfold Hid findV;rw [if_pos hi]
 rw [HF.out] at HR
 rw [hr] at HM
 have hlot:=hP1.lot _ hi
 have hok:=hP.ok _ (mem_getD hi)
 have hZb:Z (bs.getD (idx n ls) 0):=hin.b _ (getD_mem_nat (by rw [hP.len];exact hi))
 obtain ⟨l,HL⟩:∃ l,Hid (l=ls.getD (idx n ls) L0):=⟨_,rfl⟩
 obtain ⟨b,HB⟩:∃ b,Hid (b=bs.getD (idx n ls) 0):=⟨_,rfl⟩
 obtain ⟨pv,HV⟩:∃ pv,Hid (pv=pvs.getD (idx n ls) default):=⟨_,rfl⟩
 rw [← HL.out] at hlot hok hs ⊢
 rw [← HB.out] at hlot HR hZb
 rw [← HV.out] at hlot
 have hltb:b<w.heap.size:=by
  have:=blk_lt hlot
  have h2:=ty_ne hlot (heap_alloc_new w (Obj.cells #[.int .i64 (n:Int),.int .i64 (m:Int),.int .i64 (c:Int)] 92)) (by decide)
  simp at this
  omega
 have hlotw:w.heap[b]?=some (.cells (lotCells l pv) 153 (0,0)):=by rw [← Below.heap_alloc w (Obj.cells #[.int .i64 (n:Int),.int .i64 (m:Int),.int .i64 (c:Int)] 92) b hltb];exact hlot
 have hsum:=hok.sum
 have hfr:l.free≤2147483647:=by omega
 have hgo:=hok.goods
 have hex:=hok.expiry
 have hidl:=hok.id
 have c6:w.cell? ⟨b,6,none⟩=some (.int .i64 (l.free:Int)):=by rw [blk_cell hlotw];rfl
 obtain ⟨w1,hw1⟩:∃ w1,w1=(w.alloc (Obj.cells #[.int .i64 (n:Int),.int .i64 (m:Int),.int .i64 (c:Int)] 92)).drew:=⟨_,rfl⟩
 have hb1:Below w.heap.size w w1:=by rw [hw1];exact (al1 w _).drew
 have hlot1:w1.heap[b]?=some (.cells (lotCells l pv) 153 (0,0)):=by rw [hb1.block b hltb];exact hlotw
 have hcmd1:w1.heap[w.heap.size]?=some (Obj.cells #[.int .i64 (n:Int),.int .i64 (m:Int),.int .i64 (c:Int)] 92 (0,0)):=by rw [hw1];exact heap_alloc_new w _
 have hsz1:w1.heap.size=w.heap.size+1:=by rw [hw1];simp
 have HG:=hide (give_any hlot1 hok c (by omega))
 have hPg:PV os rcs (giveW w1 b l c) S M v td bs pvs (ls.set (idx n ls) (gaveL l c)):=(hP.below hb1).lotset hi (l':=gaveL l c) (gaveL_ok hok (by omega)) (by rw [HL.out];rfl) (by rw [← HV.out,← HB.out];exact giveW_self hlot1 c (by omega)) (fun k hk hne=>giveW_other hk (by rw [HB.out];exact hne))
 have hself:=giveW_self hlot1 c (by omega)
 have hkg:Kp Z w (giveW w1 b l c):=Kp.before hb1 (giveW_kp w1 b l c (Or.inl hZb))
 have hszg:=giveW_size w1 b l c
 have hcmdg:(giveW w1 b l c).heap[w.heap.size]?=some (Obj.cells #[.int .i64 (n:Int),.int .i64 (m:Int),.int .i64 (c:Int)] 92 (0,0)):=by
  rw [giveW_other (by omega) (fun e=>by omega)];exact hcmd1
 obtain ⟨G,HGw⟩:∃ G,Hid (G=giveW w1 b l c):=⟨_,rfl⟩
 rw [← HGw.out] at HG hPg hself hkg hszg hcmdg
 have g1:G.cell? ⟨w.heap.size,1,none⟩=some (.int .i64 (m:Int)):=by rw [blk_cell hcmdg];rfl
 have g2:G.cell? ⟨w.heap.size,2,none⟩=some (.int .i64 (c:Int)):=by rw [blk_cell hcmdg];rfl
 have gb1:G.cell? ⟨b,1,none⟩=some (.int .i64 (l.goods:Int)):=by rw [blk_cell hself];rfl
 have gb2:G.cell? ⟨b,2,none⟩=some (.int .i64 (l.expiry:Int)):=by rw [blk_cell hself];rfl
 have hpn:=heap_alloc_new G (Obj.cells #[.int .i64 (l.id:Int),.int .i64 (c:Int)] 156)
 have hPa:=hPg.below (al1 G (Obj.cells #[.int .i64 (l.id:Int),.int .i64 (c:Int)] 156)).drew
 have hpar:Par (G.alloc (Obj.cells #[.int .i64 (l.id:Int),.int .i64 (c:Int)] 156)).drew (.slice (some ⟨G.heap.size,0,none⟩) 1 1) [(l.id,c)]:=by
  refine Or.inr ⟨G.heap.size,1,_,rfl,hpn,fun j hj=>?_⟩
  obtain rfl:j=0:=by simp at hj;omega
  exact ⟨rfl,rfl⟩
 have hba:=(al1 G (Obj.cells #[.int .i64 (l.id:Int),.int .i64 (c:Int)] 156)).drew
 have hcmda:=(hba.block _ (blk_lt hcmdg)).trans hcmdg
 have hlota:=(hba.block _ (blk_lt hself)).trans hself
 have ap1:=hPa.apart hcmda (by decide) (by decide)
 have ap2:=hPa.apart hlota (by decide) (by decide)
 have e1:(G.alloc (Obj.cells #[.int .i64 (l.id:Int),.int .i64 (c:Int)] 156)).drew.cell? ⟨w.heap.size,1,none⟩=some (.int .i64 (m:Int)):=by rw [blk_cell hcmda];rfl
 have e2:(G.alloc (Obj.cells #[.int .i64 (l.id:Int),.int .i64 (c:Int)] 156)).drew.cell? ⟨w.heap.size,2,none⟩=some (.int .i64 (c:Int)):=by rw [blk_cell hcmda];rfl
 have e3:(G.alloc (Obj.cells #[.int .i64 (l.id:Int),.int .i64 (c:Int)] 156)).drew.cell? ⟨b,1,none⟩=some (.int .i64 (l.goods:Int)):=by rw [blk_cell hlota];rfl
 have e4:(G.alloc (Obj.cells #[.int .i64 (l.id:Int),.int .i64 (c:Int)] 156)).drew.cell? ⟨b,2,none⟩=some (.int .i64 (l.expiry:Int)):=by rw [blk_cell hlota];rfl
 have HA:=hide ((add_any hPa m l.goods l.expiry c _ _ hpar ⟨by simp,by simp;exact hidl⟩ (by rw [List.length_set];exact hl30) h2 hgo hex h3).mono (fun e w' hh=>(⟨hh.1,hide hh.2,hh.2.1.cell ap1 (blk_lt hcmda) e1,hh.2.1.cell ap1 (blk_lt hcmda) e2,hh.2.1.cell ap2 (blk_lt hlota) e3,hh.2.1.cell ap2 (blk_lt hlota) e4⟩:_∧Hid _∧_∧_∧_∧_)))
 have HPn:=hide hP
 have HK:=hide hkg
 have HSG:Hid (G.heap.size=w.heap.size+2):=by unfold Hid;omega
 subst hw1
 clear hszg hsz1 hP hP1 hlot hlotw hok hsum hr hi hlot1 hcmd1 hPg hself hkg hcmdg hpn hPa hpar HF HGw hb1 hba hcmda hlota ap1 ap2 e1 e2 e3 e4
 go_enter Tryz.func49,Tryz.ntmps49
 go_wp2_with (first
  | (go_at_call 77;refine (HR.out).mono ?_;rintro e w1 ⟨rfl,rfl⟩)
  | (go_at_call 75;refine (HM.out).mono ?_;rintro e w1 ⟨rfl,rfl⟩))
 go_region
 go_wp2_with (go_at_call 78;refine (HG.out).mono ?_;rintro e w2 ⟨rfl,rfl⟩)
 go_region_held3 (fun w'=>w'.cell? ⟨w.heap.size,1,none⟩=some (.int .i64 (m:Int))∧w'.cell? ⟨w.heap.size,2,none⟩=some (.int .i64 (c:Int))∧w'.cell? ⟨b,1,none⟩=some (.int .i64 (l.goods:Int))∧w'.cell? ⟨b,2,none⟩=some (.int .i64 (l.expiry:Int))) (go_keep) (first | (go_at_call 76;refine (HA.out).mono ?_;rintro e w3 ⟨rfl,hh,e1,e2,e3,e4⟩))
 go_wp2_with fail
 go_ret
 have hsg:=HSG.out
 obtain ⟨hk,v',hPV,hat⟩:=hh.out
 refine ⟨?_,rfl,M,v',_,_,(by rw [List.length_set] at hPV;exact hPV),?_⟩
 ·exact (HK.out.after (al1 _ _).drew).trans (hk.mono (fun k hq=>Or.inl (hq.elim (fun e=>e ▸ hin.s) (fun e=>hin.v k e))))
 ·refine ⟨Or.inl hin.s,Or.inl hin.m,Or.inl hin.mo,Or.inl hin.mh,fun g hg=>?_,fun k hk=>?_,fun pv hp q hq=>?_⟩
  ·rcases hat g hg with h | h
   ·exact Or.inl (hin.v g h)
   ·right;simp at h;omega
  ·rcases List.mem_append.1 hk with h | h
   ·exact Or.inl (hin.b k h)
   ·right;simp at h;omega
  ·rcases List.mem_append.1 hp with h | h
   ·exact Or.inl (hin.p pv h q hq)
   ·right
    simp at h;subst h
    simp [Value.ownBlock] at hq
    omega
theorem split_any {rcs:List (Nat × Nat)} {Z:Nat→Prop} {w:World} {S td:Nat} {ls:List L} {os:List O} (h:PI os rcs Z w S td ls) (n m c:Nat) (h1:n≤2147483647) (h2:m≤2147483647) (h3:c≤2147483647) :
  Calls Tryz.prog 49 #[.pointer (some ⟨S,0,none⟩),.agg #[.int .i64 (n:Int),.int .i64 (m:Int),.int .i64 (c:Int)]] w fun e w'=>Kp Z w w'∧e=.returned (.int .i64 (splitC ls n m c:Int))∧PI os rcs (Zn Z w) w' S td (splitS ls n m c):=by
 by_cases hc:splitC ls n m c=0
 ·have hx:idx n ls<ls.length∧roomC ls m=0∧¬ (ls.getD (idx n ls) L0).free<c:=by
   unfold splitC at hc
   by_cases hi:idx n ls<ls.length
   ·rw [if_pos hi] at hc
    by_cases hr:roomC ls m=0
    ·rw [if_pos hr] at hc
     refine ⟨hi,hr,fun hq=>?_⟩
     rw [if_pos hq] at hc;omega
    ·rw [if_neg hr] at hc;exact absurd hc hr
   ·rw [if_neg hi] at hc;omega
  have hS:splitS ls n m c=_:=if_pos hc
  rw [hc,hS]
  exact split_yes h n m c h1 h2 h3 hx.1 hx.2.1 hx.2.2
 ·have hS:splitS ls n m c=ls:=if_neg hc
  rw [hS]
  refine (split_no h n m c h1 h2 h3 hc).mono fun e w' ⟨he,hb⟩=>⟨kpB hb,he,?_⟩
  obtain ⟨M,v,bs,pvs,hP,hin⟩:=h
  exact ⟨M,v,bs,pvs,hP.below hb,hin.mono (fun k hk=>Or.inl hk)⟩
end Go.Proofs.YtgcedalggnmooabGreatDoor
namespace Go.Proofs.YtgcedalggnmooabGreatDoor
open Go.RowKit
def lotAt (ls:List L) (n:Nat):L:=ls.getD (idx n ls) L0
def mergeC (ls:List L) (a b m:Nat):Nat :=
 if idx a ls<ls.length∧idx b ls<ls.length then
  (if idx a ls=idx b ls∨(lotAt ls a).goods≠(lotAt ls b).goods then 8 else
   if roomC ls m=0 then (if (lotAt ls a).free+(lotAt ls b).free=0 then 7 else if 2147483647<(lotAt ls a).free+(lotAt ls b).free then 2 else 0) else roomC ls m)
 else 4
def mergeS (ls:List L) (a b m:Nat):List L :=
 if mergeC ls a b m=0 then (ls.set (idx a ls) (gaveL (lotAt ls a) (lotAt ls a).free)).set (idx b ls) (gaveL (lotAt ls b) (lotAt ls b).free)++[mkL ls m (lotAt ls a).goods (min (lotAt ls a).expiry (lotAt ls b).expiry) ((lotAt ls a).free+(lotAt ls b).free) [((lotAt ls a).id,(lotAt ls a).free),((lotAt ls b).id,(lotAt ls b).free)]] else ls
theorem bs_ne {rcs:List (Nat × Nat)} {w:World} {S:Nat} {M:Mx} {v:Value} {td:Nat} {bs:List Nat} {pvs:List Value} {ls:List L} {os:List O} (h:PV os rcs w S M v td bs pvs ls) {i j:Nat} (hi:i<ls.length) (hj:j<ls.length) (hne:i≠j):bs.getD i 0≠bs.getD j 0:=fun e=>hne (by
 have hjb:j<bs.length:=by rw [h.len];exact hj
 have hib:i<bs.length:=by rw [h.len];exact hi
 rw [List.getD_eq_getElem?_getD,List.getD_eq_getElem?_getD,List.getElem?_eq_getElem hjb,List.getElem?_eq_getElem hib] at e
 simp only [Option.getD_some] at e
 exact (List.getElem?_inj hib h.nodup).1 (by rw [List.getElem?_eq_getElem hjb,List.getElem?_eq_getElem hib,e]))
set_option maxHeartbeats 1600000 in
theorem merge_none {rcs:List (Nat × Nat)} {w:World} {S:Nat} {M:Mx} {v:Value} {td:Nat} {bs:List Nat} {pvs:List Value} {ls:List L} {os:List O} (hP:PV os rcs w S M v td bs pvs ls) (a b m:Nat) (h1:a≤2147483647) (h2:b≤2147483647) (h3:m≤2147483647) (hx:¬ (idx a ls<ls.length∧idx b ls<ls.length)) :
  Calls Tryz.prog 50 #[.pointer (some ⟨S,0,none⟩),.agg #[.int .i64 (a:Int),.int .i64 (b:Int),.int .i64 (m:Int)]] w fun e w'=>e=.returned (.int .i64 4)∧Below w.heap.size w w':=by
 have hP1:=hP.below (al1 w (Obj.cells #[.int .i64 (a:Int),.int .i64 (b:Int),.int .i64 (m:Int)] 95)).drew
 have HRA:=hide (find_any hP1 a h1)
 have HRB:=hide (find_any hP1 b h2)
 have hk0:=heap_alloc_new w (Obj.cells #[.int .i64 (a:Int),.int .i64 (b:Int),.int .i64 (m:Int)] 95)
 by_cases hi:idx a ls<ls.length
 ·have hj:¬ idx b ls<ls.length:=fun h=>hx ⟨hi,h⟩
  have HFA:Hid (findV bs ls a=.pointer (some ⟨bs.getD (idx a ls) 0,0,none⟩)):=by unfold Hid findV;rw [if_pos hi]
  have HFB:Hid (findV bs ls b=.pointer none):=by unfold Hid findV;rw [if_neg hj]
  rw [HFA.out] at HRA
  rw [HFB.out] at HRB
  generalize bs.getD (idx a ls) 0=ba at *
  clear hP hP1 hi hj hx HFA HFB hk0
  go_enter Tryz.func50,Tryz.ntmps50
  go_wp2_with fail
  go_region_held3 (fun w'=>w'.cell? ⟨w.heap.size,0,none⟩=some (.int .i64 (a:Int))∧w'.cell? ⟨w.heap.size,1,none⟩=some (.int .i64 (b:Int))) (go_keep) (first
   | (go_at_call 77;with_reducible refine (HRA.out).mono ?_;rintro e w1 ⟨rfl,rfl⟩)
   | (go_at_call 77;with_reducible refine (HRB.out).mono ?_;rintro e w1 ⟨rfl,rfl⟩))
  go_wp2_with fail
  go_ret
  exact ⟨rfl,(al1 w _).drew⟩
 ·have HFA:Hid (findV bs ls a=.pointer none):=by unfold Hid findV;rw [if_neg hi]
  rw [HFA.out] at HRA
  obtain ⟨fb,hfb⟩:∃ x,findV bs ls b=.pointer x:=by unfold findV;split <;> exact ⟨_,rfl⟩
  rw [hfb] at HRB
  clear hP hP1 hi hx HFA hfb hk0
  go_enter Tryz.func50,Tryz.ntmps50
  go_wp2_with fail
  go_region_held3 (fun w'=>w'.cell? ⟨w.heap.size,0,none⟩=some (.int .i64 (a:Int))∧w'.cell? ⟨w.heap.size,1,none⟩=some (.int .i64 (b:Int))) (go_keep) (first
   | (go_at_call 77;with_reducible refine (HRA.out).mono ?_;rintro e w1 ⟨rfl,rfl⟩)
   | (go_at_call 77;with_reducible refine (HRB.out).mono ?_;rintro e w1 ⟨rfl,rfl⟩))
  go_wp2_with fail
  go_ret
  exact ⟨rfl,(al1 w _).drew⟩
end Go.Proofs.YtgcedalggnmooabGreatDoor
