import Derived.Test.YtgcedalggnmooaaGreatDoorQ10X
import Derived.BigRegion
set_option linter.unusedSimpArgs false
set_option linter.unusedVariables false
set_option maxRecDepth 100000
namespace Go.Proofs.YtgcedalggnmooaaGreatDoor
open Go.RowKit
theorem ends_none_cancel {rcs:List (Nat × Nat)} {w:World} {R:Nat} {v:Value} {td:Nat} {rec:ByteArray} {fs:List Value} {ls:List L} {os:List O} {ro:Ro} (h:RV os rcs ro w R v td rec fs ls) (hgo:Good os ls) (a:Nat) (ha:a≤2147483647) (hx:¬ oix a os<os.length) :
  Calls Tryz.prog 70 #[.pointer (some ⟨R,0,none⟩),.int .i64 6,.int .i64 (a:Int)] w fun e w'=>e=.returned (.int .i64 9)∧w'=w:=by
 have HO:=hide (orderR_any h hgo.olen hgo.oid a ha)
 have HV:Hid (orderV os a=-1):=by unfold Hid orderV;rw [if_neg hx]
 rw [HV.out] at HO
 clear h hgo hx HV
 go_enter Tryz.func70,Tryz.ntmps70
 go_wp2_with (go_at_call 114;with_reducible refine (HO.out).mono ?_;rintro e w1 ⟨rfl,rfl⟩)
 go_ret
 exact ⟨rfl,rfl⟩
set_option maxHeartbeats 6400000 in
theorem ends_cancel {rcs:List (Nat × Nat)} {w:World} {R:Nat} {v:Value} {td:Nat} {rec:ByteArray} {fs:List Value} {ls:List L} {os:List O} {ro:Ro} (h:RV os rcs ro w R v td rec fs ls) (hgo:Good os ls) (a:Nat) (ha:a≤2147483647) (hx:oix a os<os.length) :
  Calls Tryz.prog 70 #[.pointer (some ⟨R,0,none⟩),.int .i64 6,.int .i64 (a:Int)] w fun e w'=>e=.returned (.int .i64 0)∧Kp (fun b=>b=R∨v.ownBlock=some b) w w'∧∃ ro',RV (os.filter (fun o=>o.id != a)) rcs ro' w' R v td rec fs (ls.map (finL freeL os a))∧∀ b,OB ro' b→OB ro b∨w.heap.size≤b:=by
 obtain ⟨io,hio,ho0,ho1,ho2⟩:=info_parts infoOrd
 have HO:=hide (orderR_any h hgo.olen hgo.oid a ha)
 have HV:Hid (orderV os a=(oix a os:Int)):=by unfold Hid orderV;rw [if_pos hx]
 rw [HV.out] at HO
 have HOL:=hide (hgo.ordL hx)
 have HEF:=hide (erase_filter os hgo.oids hx)
 have HUE:=hide (upd_end hgo (hgo.ordL hx) freeL)
 obtain ⟨oa,ocap,hov,hosh⟩:=h.ord.shape
 obtain ⟨OG,hOG,hOGlt,_,_,hol⟩:=hosh _ hx
 subst hOG
 have c2:=h.c2
 rw [hov] at c2
 have hlrow:=h.ord.lines _ hx
 obtain ⟨la,lcap,hlv⟩:=own_shapeS hlrow
 rw [hlv] at hol hlrow
 have hR:=blk_lt h.store
 have hroom:=h.room
 have hol10:=hgo.olen
 have hll30:(os.getD (oix a os) O0).lines.length≤30:=Nat.le_trans (hgo.oLines (by simp [List.getD_eq_getElem?_getD,hx])) hroom
 have HP:=hide h
 have HGO:=hide hgo
 have HOV:=hide hov
 have HLV:=hide hlv
 obtain ⟨ox,HOX⟩:∃ ox,Hid (ox=oix a os):=⟨_,rfl⟩
 rw [← HOX.out] at HO HOL HEF HUE hx hol hlrow hll30 HLV
 obtain ⟨ln,HLN⟩:∃ ln,Hid (ln=(os.getD ox O0).lines):=⟨_,rfl⟩
 rw [← HLN.out] at HUE hol hlrow hll30
 obtain ⟨on,HON⟩:∃ on,Hid (on=os.length):=⟨_,rfl⟩
 rw [← HON.out] at c2 hx hol10
 clear h hgo hov hosh HV hlv
 rw [show (Value.slice la (os.getD ox O0).lines.length lcap)=Value.slice la ln.length lcap by rw [HLN.out]] at *
 go_enter Tryz.func70,Tryz.ntmps70
 go_wp2_with (go_at_call 114;with_reducible refine (HO.out).mono ?_;rintro e w1 ⟨rfl,hw1⟩;have hw2:=hw1.symm;subst hw2)
 go_loopw [9,10] (fun ii _ wr=>∃ k:Nat,ii=.int .i64 k∧k≤ln.length∧RV os rcs ro wr R v td rec fs (updS (gh freeL) ls ((lineI ls ln).take k))∧Kp (fun b=>v.ownBlock=some b) w wr) (fun ii _ _=>ln.length - (intOf ii).toNat)
 case atStart=>exact ⟨0,rfl,by omega,HP.out,Kp.refl _ _⟩
 case round =>
  obtain ⟨k,rfl,hk,hrv,hkp⟩:=hrel
  have hlrv:=hrv.ord.lines ox (by rw [← HON.out];exact hx)
  rw [← HLN.out,HLV.out] at hlrv
  have hIlen:(lineI ls ln).length=ln.length:=by simp [lineI]
  have hulen:∀ k,(updS (gh freeL) ls ((lineI ls ln).take k)).length=ls.length:=fun k=>updS_len _ _ _
  by_cases hlt:k<ln.length
  ·have hpm:ln.getD k (0,0) ∈ ln:=by simp [List.getD_eq_getElem?_getD,hlt]
   have hci:(lineI ls ln).getD k (0,0)=(idx (ln.getD k (0,0)).1 ls,(ln.getD k (0,0)).2):=by simp [lineI,List.getD_eq_getElem?_getD,hlt]
   have et:(lineI ls ln).take (k+1)=(lineI ls ln).take k++[(idx (ln.getD k (0,0)).1 ls,(ln.getD k (0,0)).2)]:=by
    rw [List.take_succ_eq_append_getElem (by rw [hIlen];exact hlt),← hci];simp [List.getD_eq_getElem?_getD,hIlen,hlt]
   have hc:idx (ln.getD k (0,0)).1 ls<ls.length:=HOL.out.mem _ (by rw [← HLN.out];exact hpm)
   have hidc:(ls.getD (idx (ln.getD k (0,0)).1 ls) L0).id=(ln.getD k (0,0)).1:=idx_id hc
   have hnotin:idx (ln.getD k (0,0)).1 ls ∉ ((lineI ls ln).take k).map Prod.fst:=by
    have:=lineI_fst HOL.out
    rw [← HLN.out] at this
    have e2:(lineI ls ln).map Prod.fst=(((lineI ls ln).take k).map Prod.fst++[idx (ln.getD k (0,0)).1 ls])++((lineI ls ln).drop (k+1)).map Prod.fst:=by
     conv=>lhs;rw [← List.take_append_drop (k+1) (lineI ls ln),et]
     simp
    rw [e2] at this
    have:=(List.nodup_append.1 (List.nodup_append.1 this).1).2.2
    intro hm
    exact this _ hm _ (by simp) rfl
   have hlook:lineOf os a (ls.getD (idx (ln.getD k (0,0)).1 ls) L0).id=some (ln.getD k (0,0)).2:=by
    unfold lineOf;rw [HOL.out.find,hidc]
    show (os.getD ox O0).lines.lookup _=_
    rw [← HLN.out]
    exact lookup_of_mem (by have:=HOL.out.keys;rw [← HLN.out] at this;exact this) hpm
   obtain ⟨PG,hPG,hPlt,p1,p2⟩:=parts_cells hlrv k hlt
   subst hPG
   have hout:=updS_out (gh freeL) ((lineI ls ln).take k) ls hnotin
   generalize hpk:ln.getD k (0,0)=p at *
   obtain ⟨b,n⟩:=p
   simp only at *
   have hids2:∀ i,((updS (gh freeL) ls ((lineI ls ln).take k)).getD i L0).id=(ls.getD i L0).id:=updS_id (gh freeL) (fun l n=>rfl) _ _
   obtain ⟨c,HCI⟩:∃ c,Hid (c=idx b ls):=⟨_,rfl⟩
   rw [← HCI.out] at hc hidc hnotin hlook hout et
   have hok0:=HP.out.ok _ (mem_getD hc)
   have hnh:n≤(ls.getD c L0).held:=by rw [HGO.out.held c hc];exact line_le hlook
   have hbb:b≤2147483647:=by rw [← hidc];exact hok0.id
   have hidx:idx b (updS (gh freeL) ls ((lineI ls ln).take k))=c:=by
    have:=idx_uniq (ls:=updS (gh freeL) ls ((lineI ls ln).take k)) (fun i j h1 h2 he=>HGO.out.ids i j (by rw [← hulen k];exact h1) (by rw [← hulen k];exact h2) (by rw [hids2,hids2] at he;exact he)) (c:=c) (by rw [hulen];exact hc)
    rw [hids2,hidc] at this;exact this
   have HAT:=hide (at_any hrv b hbb)
   have hatv:atV (updS (gh freeL) ls ((lineI ls ln).take k)) b=(c:Int):=by unfold atV;rw [hidx,if_pos (by rw [hulen];exact hc)]
   rw [hatv] at HAT
   obtain ⟨va,vcap,hv',hcells⟩:=hrv.shape
   rw [hulen] at hv' hcells
   obtain ⟨G,hG,hGlt,hcl⟩:=hcells (by omega)
   subst hG
   have cR:=hrv.c1
   rw [hv'] at cR
   have e6:wr.cell? ⟨G,c * 11+6,none⟩=some (.int .i64 ((ls.getD c L0).held:Int)):=by rw [hcl c hc 6 (by omega),hout];rfl
   have e5:wr.cell? ⟨G,c * 11+5,none⟩=some (.int .i64 ((ls.getD c L0).free:Int)):=by rw [hcl c hc 5 (by omega),hout];rfl
   have hrowv:=hrv.row
   rw [hulen,hv'] at hrowv
   obtain ⟨csG,hcsG⟩:=own_ty hrowv rfl
   have f6:=blk_free hcsG (c * 11+6)
   have f5:=blk_free hcsG (c * 11+5)
   have hRG:¬ R=G:=ty_ne hrv.store hcsG (by decide)
   obtain ⟨csP,hcsP⟩:=own_ty hlrv rfl
   have hPG:¬ PG=G:=ty_ne hcsP hcsG (by decide)
   have hsum:=hok0.sum
   have hfin:gh freeL (ls.getD c L0) n=freeL (endL os a (ls.getD c L0)) n:=by unfold gh endL;rw [hlook];rfl
   have hok1:L.Ok (gh freeL (ls.getD c L0) n):=by rw [hfin];exact free_ok hok0 hlook hnh
   have hrv2:=hrv.two (i:=c) (l':=gh freeL (ls.getD c L0) n) (by rw [hv',hulen]) (by rw [hulen];exact hc) hok1 (by rw [hout];rfl) (by rw [hout];rfl) (((ls.getD c L0).held:Int) - (n:Int)) (((ls.getD c L0).free:Int)+(n:Int)) 6 5 (by omega) (by omega) (fun f=>by
    rw [hout]
    have x1:(((ls.getD c L0).held:Int) - (n:Int))=(((ls.getD c L0).held - n:Nat):Int):=by omega
    rw [x1];rfl)
   have hls:updS (gh freeL) ls ((lineI ls ln).take (k+1))=(updS (gh freeL) ls ((lineI ls ln).take k)).set c (gh freeL (ls.getD c L0) n):=by rw [et,updS_snoc,hout]
   rw [← hls] at hrv2
   have hkp2:Kp (fun b=>v.ownBlock=some b) w (twoW wr G c 6 5 (((ls.getD c L0).held:Int) - (n:Int)) (((ls.getD c L0).free:Int)+(n:Int))):=hkp.trans (twoW_kp (Or.inl (by rw [hv'];rfl)))
   have hfb:(ls.getD c L0).free+n≤2147483647:=by omega
   have hhb:(ls.getD c L0).held≤2147483647:=by omega
   have HR2:=hide hrv2
   have HK2:=hide hkp2
   unfold twoW at HR2 HK2
   generalize (ls.getD c L0).free=fr at *
   generalize (ls.getD c L0).held=hd at *
   clear hpm hci et hidc hnotin hlook hout hpk hids2 hok0 hnh hidx hatv hv' hcells hcl hrowv hcsG hcsP hsum hfin hok1 hrv2 hls hkp2 hrv hkp hlrv hIlen hulen c2 hol hlrow hx ha
   go_wp2_with (go_at_call 111;with_reducible refine (HAT.out).mono ?_;rintro e w3 ⟨rfl,hw3⟩;have hw4:=hw3.symm;subst hw4)
   go_region
   go_wp2_with fail
   go_region
   go_wp2_with fail
   go_roundw
   case rel=>exact ⟨k+1,by go_num,by omega,HR2.out,HK2.out⟩
   case measure=>simp [intOf];omega
  ·obtain rfl:k=ln.length:=by omega
   rw [List.take_of_length_le (by rw [hIlen];exact Nat.le_refl _),HUE.out] at hrv
   have HRV:=hide hrv
   have HKP:=hide hkp
   have x2:=hrv.c2
   rw [HOV.out,← HON.out] at x2
   have hRw:=blk_lt hrv.store
   have HSH:=hide hrv.ord.shape
   clear hrv hkp hlrv hIlen hulen hlt c2 hol hlrow
   rename World=>wo
   go_wp2_with fail
   go_loopw [11,12] (fun rr ii w2=>∃ k:Nat,ii=.int .i64 k∧k≤on∧Below wo.heap.size wo w2∧w2.ownsRow wo.heap.size 132 3 rr ((os.take k).eraseIdx ox).length (oflat ((os.take k).eraseIdx ox) ((ro.lvs.take k).eraseIdx ox))) (fun _ ii _=>on - (intOf ii).toNat)
   case atStart=>exact ⟨0,rfl,by omega,Below.refl _ _,World.ownsRow_nil _ _ _ _⟩
   case round =>
    obtain ⟨k,rfl,hk,hbl,hown⟩:=hrel
    have y2:=(hbl.cell (p:=⟨R,2,none⟩) hRw).trans x2
    by_cases hlt:k<on
    ·by_cases hko:k=ox
     ·subst hko
      have HB2:=hide hbl
      have HW2:=hide hown
      clear hbl hown
      go_wp2_with fail
      go_roundw
      case rel=>exact ⟨k+1,by go_num,by omega,HB2.out,by rw [erase_skip,erase_skip];exact HW2.out⟩
      case measure=>simp [intOf];omega
     ·obtain ⟨oa',ocap',hov',hsh⟩:=HSH.out
      obtain ⟨OG',hOG',hOGlt',q0,q1,q2⟩:=hsh k (by rw [← HON.out];exact hlt)
      have hq:=HOV.out.symm.trans hov'
      rw [hOG'] at hq
      cases hq
      have y0:=(hbl.cell (p:=⟨OG,k * 3,none⟩) hOGlt').trans q0
      have y1:=(hbl.cell (p:=⟨OG,k * 3+1,none⟩) hOGlt').trans q1
      have y3:=(hbl.cell (p:=⟨OG,k * 3+2,none⟩) hOGlt').trans q2
      have hll:=HRV.out.ord.llen
      have HE1:=hide (erase_take os O0 (o:=ox) (by rw [← HON.out];exact hlt) hko)
      have HE2:=hide (erase_take ro.lvs default (o:=ox) (k:=k) (by rw [hll,← HON.out];exact hlt) hko)
      have hlq:=HRV.out.ord.lines k (by rw [← HON.out];exact hlt)
      obtain ⟨la2,lcap2,hlv2⟩:=own_shapeS hlq
      rw [hlv2] at y3
      have HL2:=hide hlv2
      have hel:((ro.lvs.take k).eraseIdx ox).length=((os.take k).eraseIdx ox).length:=by rw [List.length_eraseIdx,List.length_eraseIdx,List.length_take,List.length_take,hll]
      have HS1:=hide (oflat_snoc (os.getD k O0) (ro.lvs.getD k default) ((os.take k).eraseIdx ox) ((ro.lvs.take k).eraseIdx ox) hel)
      have hn10:((os.take k).eraseIdx ox).length≤10:=by
       rw [List.length_eraseIdx,List.length_take];split <;> omega
      have hwz:=hbl.size
      have HB2:=hide hbl
      have HLT:=hide (fun b=>hown.lt b)
      clear hbl q0 q1 q2 hsh hov' hll hlq hlv2 hel hOGlt' HSH x2
      generalize (os.getD k O0).lines.length=m2 at *
      generalize hi1:((os.getD k O0).id:Int)=id1 at *
      generalize hg1:((os.getD k O0).goods:Int)=go1 at *
      generalize hnn:((os.take k).eraseIdx ox).length=en at *
      have HHI:=hide hnn
      clear hnn
      have hneq:decide ((k:Int)≠(ox:Int))=true:=by simp;omega
      go_wp2_with (at_builtin;refine wpList_append_own _ rfl _ _ 39 rfl wo.heap.size 132 io (.agg #[.int .i64 0,.int .i64 0,.slice none 0 0]) 3 40 tUOrds hio ho0 ho1 ho2 rfl (by decide) _ en _ rfl (hown.alloc _) ⟨wr.heap.size,0,none⟩ 1 1 [.int .i64 id1,.int .i64 go1,.slice la2 m2 lcap2] rfl rfl ?c1 ?c2 ?c3 ?c4 ?c5 ?_)
      case c1=>exact cell_three_new _ _ _ _ _
      case c2=>intro u hu;simp at hu;rcases hu with rfl | rfl | rfl <;> rfl
      case c3=>unfold maxLen;omega
      case c4=>omega
      case c5=>simp;omega
      intro lv2 w2 hown2 hgrow hnn
      have hown3:w2.ownsRow wo.heap.size 132 3 lv2 ((os.take (k+1)).eraseIdx ox).length (oflat ((os.take (k+1)).eraseIdx ox) ((ro.lvs.take (k+1)).eraseIdx ox)):=by
       rw [HE1.out,HE2.out,HS1.out,List.length_append,List.length_singleton,HHI.out,HL2.out]
       exact hown2
      have hbb:Below wo.heap.size wo w2:=(HB2.out.alloc hwz _).grown hgrow (by simp;omega) (fun k hk=>(HLT.out k hk).1)
      have HO3:=hide hown3
      have HBB:=hide hbb
      clear hown2 hown3 hbb hgrow hnn hown y0 y1 y2 y3
      go_wp2_with fail
      go_roundw
      case rel=>exact ⟨k+1,by go_num,by omega,HBB.out,HO3.out⟩
      case measure=>simp [intOf];omega
    ·obtain rfl:k=on:=by omega
     have e1:(os.take k).eraseIdx ox=os.eraseIdx ox:=by rw [List.take_of_length_le (by rw [← HON.out];exact Nat.le_refl _)]
     have e2:(ro.lvs.take k).eraseIdx ox=ro.lvs.eraseIdx ox:=by rw [List.take_of_length_le (by rw [HRV.out.ord.llen,← HON.out];exact Nat.le_refl _)]
     rw [e1,e2] at hown
     obtain ⟨ra,rcap,hru⟩:=own_shapeS hown
     subst hru
     obtain ⟨en,HEN⟩:∃ en,Hid (en=(os.eraseIdx ox).length):=⟨_,rfl⟩
     rw [← HEN.out] at hown ⊢
     have HRM:=hide (HRV.out.removed (ov':=.slice ra en rcap) (by rw [← HON.out];exact hx) hbl (by rw [← HEN.out];exact hown))
     rw [HEF.out] at HRM
     have HLT:=hide (fun b hb=>(hown.lt b hb).1)
     have xf:=(hbl.frozen (p:=⟨R,2,none⟩) hRw).trans (blk_free HRV.out.store 2)
     have HKF:Hid (Kp (fun b=>b=R∨v.ownBlock=some b) w (wr.setCell ⟨R,2,none⟩ (.slice ra en rcap))):=hide (Kp.setCell (p:=⟨R,2,none⟩) ((HKP.out.mono (Z':=fun b=>b=R∨v.ownBlock=some b) (fun b hb=>Or.inr hb)).after hbl) (Or.inl (Or.inl rfl)) _)
     have hszw:=HKP.out.size
     have HOBR:=hide (OB_removed (ro:=ro) (ov':=.slice ra en rcap) (ox:=ox) (n:=w.heap.size) (fun b hb=>Nat.le_trans hszw (HLT.out b hb)))
     clear hbl hown e1 e2 HLT hszw
     go_wp2_with fail
     go_ret
     exact ⟨rfl,HKF.out,_,HRM.out,HOBR.out⟩
end Go.Proofs.YtgcedalggnmooaaGreatDoor
namespace Go.Proofs.YtgcedalggnmooaaGreatDoor
open Go.RowKit
theorem ends_none_ship {rcs:List (Nat × Nat)} {w:World} {R:Nat} {v:Value} {td:Nat} {rec:ByteArray} {fs:List Value} {ls:List L} {os:List O} {ro:Ro} (h:RV os rcs ro w R v td rec fs ls) (hgo:Good os ls) (a:Nat) (ha:a≤2147483647) (hx:¬ oix a os<os.length) :
  Calls Tryz.prog 70 #[.pointer (some ⟨R,0,none⟩),.int .i64 7,.int .i64 (a:Int)] w fun e w'=>e=.returned (.int .i64 9)∧w'=w:=by
 have HO:=hide (orderR_any h hgo.olen hgo.oid a ha)
 have HV:Hid (orderV os a=-1):=by unfold Hid orderV;rw [if_neg hx]
 rw [HV.out] at HO
 clear h hgo hx HV
 go_enter Tryz.func70,Tryz.ntmps70
 go_wp2_with (go_at_call 114;with_reducible refine (HO.out).mono ?_;rintro e w1 ⟨rfl,rfl⟩)
 go_ret
 exact ⟨rfl,rfl⟩
set_option maxHeartbeats 6400000 in
theorem ends_ship {rcs:List (Nat × Nat)} {w:World} {R:Nat} {v:Value} {td:Nat} {rec:ByteArray} {fs:List Value} {ls:List L} {os:List O} {ro:Ro} (h:RV os rcs ro w R v td rec fs ls) (hgo:Good os ls) (a:Nat) (ha:a≤2147483647) (hx:oix a os<os.length) :
  Calls Tryz.prog 70 #[.pointer (some ⟨R,0,none⟩),.int .i64 7,.int .i64 (a:Int)] w fun e w'=>e=.returned (.int .i64 0)∧Kp (fun b=>b=R∨v.ownBlock=some b) w w'∧∃ ro',RV (os.filter (fun o=>o.id != a)) rcs ro' w' R v td rec fs (ls.map (finL shipL os a))∧∀ b,OB ro' b→OB ro b∨w.heap.size≤b:=by
 obtain ⟨io,hio,ho0,ho1,ho2⟩:=info_parts infoOrd
 have HO:=hide (orderR_any h hgo.olen hgo.oid a ha)
 have HV:Hid (orderV os a=(oix a os:Int)):=by unfold Hid orderV;rw [if_pos hx]
 rw [HV.out] at HO
 have HOL:=hide (hgo.ordL hx)
 have HEF:=hide (erase_filter os hgo.oids hx)
 have HUE:=hide (upd_end hgo (hgo.ordL hx) shipL)
 obtain ⟨oa,ocap,hov,hosh⟩:=h.ord.shape
 obtain ⟨OG,hOG,hOGlt,_,_,hol⟩:=hosh _ hx
 subst hOG
 have c2:=h.c2
 rw [hov] at c2
 have hlrow:=h.ord.lines _ hx
 obtain ⟨la,lcap,hlv⟩:=own_shapeS hlrow
 rw [hlv] at hol hlrow
 have hR:=blk_lt h.store
 have hroom:=h.room
 have hol10:=hgo.olen
 have hll30:(os.getD (oix a os) O0).lines.length≤30:=Nat.le_trans (hgo.oLines (by simp [List.getD_eq_getElem?_getD,hx])) hroom
 have HP:=hide h
 have HGO:=hide hgo
 have HOV:=hide hov
 have HLV:=hide hlv
 obtain ⟨ox,HOX⟩:∃ ox,Hid (ox=oix a os):=⟨_,rfl⟩
 rw [← HOX.out] at HO HOL HEF HUE hx hol hlrow hll30 HLV
 obtain ⟨ln,HLN⟩:∃ ln,Hid (ln=(os.getD ox O0).lines):=⟨_,rfl⟩
 rw [← HLN.out] at HUE hol hlrow hll30
 obtain ⟨on,HON⟩:∃ on,Hid (on=os.length):=⟨_,rfl⟩
 rw [← HON.out] at c2 hx hol10
 clear h hgo hov hosh HV hlv
 rw [show (Value.slice la (os.getD ox O0).lines.length lcap)=Value.slice la ln.length lcap by rw [HLN.out]] at *
 go_enter Tryz.func70,Tryz.ntmps70
 go_wp2_with (go_at_call 114;with_reducible refine (HO.out).mono ?_;rintro e w1 ⟨rfl,hw1⟩;have hw2:=hw1.symm;subst hw2)
 go_loopw [9,10] (fun ii _ wr=>∃ k:Nat,ii=.int .i64 k∧k≤ln.length∧RV os rcs ro wr R v td rec fs (updS (gh shipL) ls ((lineI ls ln).take k))∧Kp (fun b=>v.ownBlock=some b) w wr) (fun ii _ _=>ln.length - (intOf ii).toNat)
 case atStart=>exact ⟨0,rfl,by omega,HP.out,Kp.refl _ _⟩
 case round =>
  obtain ⟨k,rfl,hk,hrv,hkp⟩:=hrel
  have hlrv:=hrv.ord.lines ox (by rw [← HON.out];exact hx)
  rw [← HLN.out,HLV.out] at hlrv
  have hIlen:(lineI ls ln).length=ln.length:=by simp [lineI]
  have hulen:∀ k,(updS (gh shipL) ls ((lineI ls ln).take k)).length=ls.length:=fun k=>updS_len _ _ _
  by_cases hlt:k<ln.length
  ·have hpm:ln.getD k (0,0) ∈ ln:=by simp [List.getD_eq_getElem?_getD,hlt]
   have hci:(lineI ls ln).getD k (0,0)=(idx (ln.getD k (0,0)).1 ls,(ln.getD k (0,0)).2):=by simp [lineI,List.getD_eq_getElem?_getD,hlt]
   have et:(lineI ls ln).take (k+1)=(lineI ls ln).take k++[(idx (ln.getD k (0,0)).1 ls,(ln.getD k (0,0)).2)]:=by
    rw [List.take_succ_eq_append_getElem (by rw [hIlen];exact hlt),← hci];simp [List.getD_eq_getElem?_getD,hIlen,hlt]
   have hc:idx (ln.getD k (0,0)).1 ls<ls.length:=HOL.out.mem _ (by rw [← HLN.out];exact hpm)
   have hidc:(ls.getD (idx (ln.getD k (0,0)).1 ls) L0).id=(ln.getD k (0,0)).1:=idx_id hc
   have hnotin:idx (ln.getD k (0,0)).1 ls ∉ ((lineI ls ln).take k).map Prod.fst:=by
    have:=lineI_fst HOL.out
    rw [← HLN.out] at this
    have e2:(lineI ls ln).map Prod.fst=(((lineI ls ln).take k).map Prod.fst++[idx (ln.getD k (0,0)).1 ls])++((lineI ls ln).drop (k+1)).map Prod.fst:=by
     conv=>lhs;rw [← List.take_append_drop (k+1) (lineI ls ln),et]
     simp
    rw [e2] at this
    have:=(List.nodup_append.1 (List.nodup_append.1 this).1).2.2
    intro hm
    exact this _ hm _ (by simp) rfl
   have hlook:lineOf os a (ls.getD (idx (ln.getD k (0,0)).1 ls) L0).id=some (ln.getD k (0,0)).2:=by
    unfold lineOf;rw [HOL.out.find,hidc]
    show (os.getD ox O0).lines.lookup _=_
    rw [← HLN.out]
    exact lookup_of_mem (by have:=HOL.out.keys;rw [← HLN.out] at this;exact this) hpm
   obtain ⟨PG,hPG,hPlt,p1,p2⟩:=parts_cells hlrv k hlt
   subst hPG
   have hout:=updS_out (gh shipL) ((lineI ls ln).take k) ls hnotin
   generalize hpk:ln.getD k (0,0)=p at *
   obtain ⟨b,n⟩:=p
   simp only at *
   have hids2:∀ i,((updS (gh shipL) ls ((lineI ls ln).take k)).getD i L0).id=(ls.getD i L0).id:=updS_id (gh shipL) (fun l n=>rfl) _ _
   obtain ⟨c,HCI⟩:∃ c,Hid (c=idx b ls):=⟨_,rfl⟩
   rw [← HCI.out] at hc hidc hnotin hlook hout et
   have hok0:=HP.out.ok _ (mem_getD hc)
   have hnh:n≤(ls.getD c L0).held:=by rw [HGO.out.held c hc];exact line_le hlook
   have hbb:b≤2147483647:=by rw [← hidc];exact hok0.id
   have hidx:idx b (updS (gh shipL) ls ((lineI ls ln).take k))=c:=by
    have:=idx_uniq (ls:=updS (gh shipL) ls ((lineI ls ln).take k)) (fun i j h1 h2 he=>HGO.out.ids i j (by rw [← hulen k];exact h1) (by rw [← hulen k];exact h2) (by rw [hids2,hids2] at he;exact he)) (c:=c) (by rw [hulen];exact hc)
    rw [hids2,hidc] at this;exact this
   have HAT:=hide (at_any hrv b hbb)
   have hatv:atV (updS (gh shipL) ls ((lineI ls ln).take k)) b=(c:Int):=by unfold atV;rw [hidx,if_pos (by rw [hulen];exact hc)]
   rw [hatv] at HAT
   obtain ⟨va,vcap,hv',hcells⟩:=hrv.shape
   rw [hulen] at hv' hcells
   obtain ⟨G,hG,hGlt,hcl⟩:=hcells (by omega)
   subst hG
   have cR:=hrv.c1
   rw [hv'] at cR
   have e6:wr.cell? ⟨G,c * 11+6,none⟩=some (.int .i64 ((ls.getD c L0).held:Int)):=by rw [hcl c hc 6 (by omega),hout];rfl
   have e5:wr.cell? ⟨G,c * 11+7,none⟩=some (.int .i64 ((ls.getD c L0).shipped:Int)):=by rw [hcl c hc 7 (by omega),hout];rfl
   have hrowv:=hrv.row
   rw [hulen,hv'] at hrowv
   obtain ⟨csG,hcsG⟩:=own_ty hrowv rfl
   have f6:=blk_free hcsG (c * 11+6)
   have f5:=blk_free hcsG (c * 11+7)
   have hRG:¬ R=G:=ty_ne hrv.store hcsG (by decide)
   obtain ⟨csP,hcsP⟩:=own_ty hlrv rfl
   have hPG:¬ PG=G:=ty_ne hcsP hcsG (by decide)
   have hsum:=hok0.sum
   have hfin:gh shipL (ls.getD c L0) n=shipL (endL os a (ls.getD c L0)) n:=by unfold gh endL;rw [hlook];rfl
   have hok1:L.Ok (gh shipL (ls.getD c L0) n):=by rw [hfin];exact ship_ok hok0 hlook hnh
   have hrv2:=hrv.two (i:=c) (l':=gh shipL (ls.getD c L0) n) (by rw [hv',hulen]) (by rw [hulen];exact hc) hok1 (by rw [hout];rfl) (by rw [hout];rfl) (((ls.getD c L0).held:Int) - (n:Int)) (((ls.getD c L0).shipped:Int)+(n:Int)) 6 7 (by omega) (by omega) (fun f=>by
    rw [hout]
    have x1:(((ls.getD c L0).held:Int) - (n:Int))=(((ls.getD c L0).held - n:Nat):Int):=by omega
    rw [x1];rfl)
   have hls:updS (gh shipL) ls ((lineI ls ln).take (k+1))=(updS (gh shipL) ls ((lineI ls ln).take k)).set c (gh shipL (ls.getD c L0) n):=by rw [et,updS_snoc,hout]
   rw [← hls] at hrv2
   have hkp2:Kp (fun b=>v.ownBlock=some b) w (twoW wr G c 6 7 (((ls.getD c L0).held:Int) - (n:Int)) (((ls.getD c L0).shipped:Int)+(n:Int))):=hkp.trans (twoW_kp (Or.inl (by rw [hv'];rfl)))
   have hfb:(ls.getD c L0).shipped+n≤2147483647:=by omega
   have hhb:(ls.getD c L0).held≤2147483647:=by omega
   have HR2:=hide hrv2
   have HK2:=hide hkp2
   unfold twoW at HR2 HK2
   generalize (ls.getD c L0).shipped=fr at *
   generalize (ls.getD c L0).held=hd at *
   clear hpm hci et hidc hnotin hlook hout hpk hids2 hok0 hnh hidx hatv hv' hcells hcl hrowv hcsG hcsP hsum hfin hok1 hrv2 hls hkp2 hrv hkp hlrv hIlen hulen c2 hol hlrow hx ha
   go_wp2_with (go_at_call 111;with_reducible refine (HAT.out).mono ?_;rintro e w3 ⟨rfl,hw3⟩;have hw4:=hw3.symm;subst hw4)
   go_region
   go_wp2_with fail
   go_region
   go_wp2_with fail
   go_roundw
   case rel=>exact ⟨k+1,by go_num,by omega,HR2.out,HK2.out⟩
   case measure=>simp [intOf];omega
  ·obtain rfl:k=ln.length:=by omega
   rw [List.take_of_length_le (by rw [hIlen];exact Nat.le_refl _),HUE.out] at hrv
   have HRV:=hide hrv
   have HKP:=hide hkp
   have x2:=hrv.c2
   rw [HOV.out,← HON.out] at x2
   have hRw:=blk_lt hrv.store
   have HSH:=hide hrv.ord.shape
   clear hrv hkp hlrv hIlen hulen hlt c2 hol hlrow
   rename World=>wo
   go_wp2_with fail
   go_loopw [11,12] (fun rr ii w2=>∃ k:Nat,ii=.int .i64 k∧k≤on∧Below wo.heap.size wo w2∧w2.ownsRow wo.heap.size 132 3 rr ((os.take k).eraseIdx ox).length (oflat ((os.take k).eraseIdx ox) ((ro.lvs.take k).eraseIdx ox))) (fun _ ii _=>on - (intOf ii).toNat)
   case atStart=>exact ⟨0,rfl,by omega,Below.refl _ _,World.ownsRow_nil _ _ _ _⟩
   case round =>
    obtain ⟨k,rfl,hk,hbl,hown⟩:=hrel
    have y2:=(hbl.cell (p:=⟨R,2,none⟩) hRw).trans x2
    by_cases hlt:k<on
    ·by_cases hko:k=ox
     ·subst hko
      have HB2:=hide hbl
      have HW2:=hide hown
      clear hbl hown
      go_wp2_with fail
      go_roundw
      case rel=>exact ⟨k+1,by go_num,by omega,HB2.out,by rw [erase_skip,erase_skip];exact HW2.out⟩
      case measure=>simp [intOf];omega
     ·obtain ⟨oa',ocap',hov',hsh⟩:=HSH.out
      obtain ⟨OG',hOG',hOGlt',q0,q1,q2⟩:=hsh k (by rw [← HON.out];exact hlt)
      have hq:=HOV.out.symm.trans hov'
      rw [hOG'] at hq
      cases hq
      have y0:=(hbl.cell (p:=⟨OG,k * 3,none⟩) hOGlt').trans q0
      have y1:=(hbl.cell (p:=⟨OG,k * 3+1,none⟩) hOGlt').trans q1
      have y3:=(hbl.cell (p:=⟨OG,k * 3+2,none⟩) hOGlt').trans q2
      have hll:=HRV.out.ord.llen
      have HE1:=hide (erase_take os O0 (o:=ox) (by rw [← HON.out];exact hlt) hko)
      have HE2:=hide (erase_take ro.lvs default (o:=ox) (k:=k) (by rw [hll,← HON.out];exact hlt) hko)
      have hlq:=HRV.out.ord.lines k (by rw [← HON.out];exact hlt)
      obtain ⟨la2,lcap2,hlv2⟩:=own_shapeS hlq
      rw [hlv2] at y3
      have HL2:=hide hlv2
      have hel:((ro.lvs.take k).eraseIdx ox).length=((os.take k).eraseIdx ox).length:=by rw [List.length_eraseIdx,List.length_eraseIdx,List.length_take,List.length_take,hll]
      have HS1:=hide (oflat_snoc (os.getD k O0) (ro.lvs.getD k default) ((os.take k).eraseIdx ox) ((ro.lvs.take k).eraseIdx ox) hel)
      have hn10:((os.take k).eraseIdx ox).length≤10:=by
       rw [List.length_eraseIdx,List.length_take];split <;> omega
      have hwz:=hbl.size
      have HB2:=hide hbl
      have HLT:=hide (fun b=>hown.lt b)
      clear hbl q0 q1 q2 hsh hov' hll hlq hlv2 hel hOGlt' HSH x2
      generalize (os.getD k O0).lines.length=m2 at *
      generalize hi1:((os.getD k O0).id:Int)=id1 at *
      generalize hg1:((os.getD k O0).goods:Int)=go1 at *
      generalize hnn:((os.take k).eraseIdx ox).length=en at *
      have HHI:=hide hnn
      clear hnn
      have hneq:decide ((k:Int)≠(ox:Int))=true:=by simp;omega
      go_wp2_with (at_builtin;refine wpList_append_own _ rfl _ _ 39 rfl wo.heap.size 132 io (.agg #[.int .i64 0,.int .i64 0,.slice none 0 0]) 3 40 tUOrds hio ho0 ho1 ho2 rfl (by decide) _ en _ rfl (hown.alloc _) ⟨wr.heap.size,0,none⟩ 1 1 [.int .i64 id1,.int .i64 go1,.slice la2 m2 lcap2] rfl rfl ?c1 ?c2 ?c3 ?c4 ?c5 ?_)
      case c1=>exact cell_three_new _ _ _ _ _
      case c2=>intro u hu;simp at hu;rcases hu with rfl | rfl | rfl <;> rfl
      case c3=>unfold maxLen;omega
      case c4=>omega
      case c5=>simp;omega
      intro lv2 w2 hown2 hgrow hnn
      have hown3:w2.ownsRow wo.heap.size 132 3 lv2 ((os.take (k+1)).eraseIdx ox).length (oflat ((os.take (k+1)).eraseIdx ox) ((ro.lvs.take (k+1)).eraseIdx ox)):=by
       rw [HE1.out,HE2.out,HS1.out,List.length_append,List.length_singleton,HHI.out,HL2.out]
       exact hown2
      have hbb:Below wo.heap.size wo w2:=(HB2.out.alloc hwz _).grown hgrow (by simp;omega) (fun k hk=>(HLT.out k hk).1)
      have HO3:=hide hown3
      have HBB:=hide hbb
      clear hown2 hown3 hbb hgrow hnn hown y0 y1 y2 y3
      go_wp2_with fail
      go_roundw
      case rel=>exact ⟨k+1,by go_num,by omega,HBB.out,HO3.out⟩
      case measure=>simp [intOf];omega
    ·obtain rfl:k=on:=by omega
     have e1:(os.take k).eraseIdx ox=os.eraseIdx ox:=by rw [List.take_of_length_le (by rw [← HON.out];exact Nat.le_refl _)]
     have e2:(ro.lvs.take k).eraseIdx ox=ro.lvs.eraseIdx ox:=by rw [List.take_of_length_le (by rw [HRV.out.ord.llen,← HON.out];exact Nat.le_refl _)]
     rw [e1,e2] at hown
     obtain ⟨ra,rcap,hru⟩:=own_shapeS hown
     subst hru
     obtain ⟨en,HEN⟩:∃ en,Hid (en=(os.eraseIdx ox).length):=⟨_,rfl⟩
     rw [← HEN.out] at hown ⊢
     have HRM:=hide (HRV.out.removed (ov':=.slice ra en rcap) (by rw [← HON.out];exact hx) hbl (by rw [← HEN.out];exact hown))
     rw [HEF.out] at HRM
     have HLT:=hide (fun b hb=>(hown.lt b hb).1)
     have xf:=(hbl.frozen (p:=⟨R,2,none⟩) hRw).trans (blk_free HRV.out.store 2)
     have HKF:Hid (Kp (fun b=>b=R∨v.ownBlock=some b) w (wr.setCell ⟨R,2,none⟩ (.slice ra en rcap))):=hide (Kp.setCell (p:=⟨R,2,none⟩) ((HKP.out.mono (Z':=fun b=>b=R∨v.ownBlock=some b) (fun b hb=>Or.inr hb)).after hbl) (Or.inl (Or.inl rfl)) _)
     have hszw:=HKP.out.size
     have HOBR:=hide (OB_removed (ro:=ro) (ov':=.slice ra en rcap) (ox:=ox) (n:=w.heap.size) (fun b hb=>Nat.le_trans hszw (HLT.out b hb)))
     clear hbl hown e1 e2 HLT hszw
     go_wp2_with fail
     go_ret
     exact ⟨rfl,HKF.out,_,HRM.out,HOBR.out⟩
end Go.Proofs.YtgcedalggnmooaaGreatDoor
