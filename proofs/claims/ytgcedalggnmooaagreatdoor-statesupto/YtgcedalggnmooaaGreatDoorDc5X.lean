import Derived.Test.YtgcedalggnmooaaGreatDoorDc3X
import Derived.Test.YtgcedalggnmooaaGreatDoorQ8X
import Derived.Deep.CutRange
import Derived.Test.YtgcedalggnmooaaGreatDoorRp1X
import Derived.Test.YtgcedalggnmooaaGreatDoorQ13X
import Derived.Test.YtgcedalggnmooaaGreatDoorR3X
import Derived.Test.YtgcedalggnmooaaGreatDoorMp0X
import Derived.Deep.RegionHeld3
import Derived.Test.YtgcedalggnmooaaGreatDoorHnX
set_option linter.unusedSimpArgs false
set_option linter.unusedVariables false
set_option maxRecDepth 100000
namespace Go.Proofs.YtgcedalggnmooaaGreatDoor
open Go.RowKit
structure RecI (w6 w8:World) (os:List O) (rcs:List (Nat × Nat)) (ro:Ro) (R:Nat) (v:Value) (td:Nat) (rec:ByteArray) (fs:List Value) (ls:List L) (s:List Nat) (sg sc:Nat) (wr:World) (k g oc:Nat):Prop where
 rv:RV os rcs ro wr R v td rec fs ls
 row:wr.ownsRow 0 3 1 (.slice (some ⟨sg,0,none⟩) s.length sc) s.length (I s)
 out:wr.ownsRow w6.heap.size 3 1 (.slice (some ⟨g,0,none⟩) (1+(hN ls (s.take k)).length * 2) oc) (1+(hN ls (s.take k)).length * 2) (I ((hN ls (s.take k)).length :: tN ls (hN ls (s.take k))))
 at':g=w6.heap.size∨w8.heap.size≤g
 below:Below w6.heap.size w6 wr
 sz:w8.heap.size≤wr.heap.size
set_option maxHeartbeats 6400000 in
theorem recallsR_ok {rcs:List (Nat × Nat)} {w:World} {R:Nat} {v:Value} {td:Nat} {rec:ByteArray} {fs:List Value} {ls:List L} {os:List O} {ro:Ro} (h:RV os rcs ro w R v td rec fs ls) (gn cap0:Nat) (a m:Nat) (hns:NS w gn [a,m]) (h1:a≤2147483647) (h2:m≤2147483647) (hi:idx a ls<ls.length) (hc:rcs.contains (a,m)=false) (h10:¬ 10≤rcs.length) :
  Calls Tryz.prog 71 #[.pointer (some ⟨R,0,none⟩),.slice (some ⟨gn,0,none⟩) 2 cap0] w fun e w'=>Kp (fun b=>b=R∨ro.rv.ownBlock=some b) w w'∧(∃ ro',RV os (rcs++[(a,m)]) ro' w' R v td rec fs ls∧∀ b,OB ro' b→OB ro b∨w.heap.size≤b)∧∃ g c,e=.returned (.tuple #[.slice (some ⟨g,0,none⟩) (toldQ ls (heldQ ls a)).length c,.int .i64 0])∧g≠R∧Rw w' g (toldQ ls (heldQ ls a)):=by
 obtain ⟨i3,hi3,hy0,hy1,hy2⟩:=info_parts info3
 obtain ⟨ip,hip,hp0,hp1,hp2⟩:=info_parts infoPart
 obtain ⟨⟨cs,hcs⟩,hcl⟩:=hns
 have n0:w.cell? ⟨gn,0,none⟩=some (.int .i64 (a:Int)):=hcl 0 (by simp)
 have n1:w.cell? ⟨gn,1,none⟩=some (.int .i64 (m:Int)):=hcl 1 (by simp)
 have hgn:=blk_lt hcs
 have HA:=hide (at_any h a h1)
 have HX:Hid (∀ n,Calls Tryz.prog 116 #[.pointer (some ⟨R,0,none⟩),.int .i64 (a:Int),.int .i64 (m:Int)] (w.drewN n) fun e w'=>e=.returned (.int .i64 (rixV rcs a m))∧w'=w.drewN n):=fun n=>recallIx_any (h.below (below_drewN (Below.refl _ _) n)) a m
 have HV0:Hid (atV ls a=(idx a ls:Int)):=by unfold Hid atV;rw [if_pos hi]
 rw [HV0.out] at HA
 have HV:Hid (rixV rcs a m=-1):=by unfold Hid rixV;rw [if_neg (fun q=>by rw [rix_has.1 q] at hc;cases hc)]
 rw [HV.out] at HX
 have HI:=hide hi
 have HRC:=hide (h.rc.put h1 h2 hc h10)
 have HCS:=hide hcs
 obtain ⟨ix,HIX⟩:∃ ix,Hid (ix=idx a ls):=⟨_,rfl⟩
 rw [← HIX.out] at HA
 obtain ⟨ra,rcap,hrv,_⟩:=h.rshape
 have c3:=h.c3
 rw [hrv] at c3
 have hrow:=h.ord.fd.rrow
 rw [hrv] at hrow
 have HRVs:=hide hrv
 have f3:=blk_free h.store 3
 have hRlt:=blk_lt h.store
 have HP:=hide h
 obtain ⟨rn,HRN⟩:∃ rn,Hid (rn=rcs.length):=⟨_,rfl⟩
 rw [← HRN.out] at c3 h10 hrow
 have hrn:rn<10:=by omega
 have hrR:(Value.slice ra rn rcap).ownBlock≠some R:=own_ne_lot hrow h.store (by decide)
 clear h hcl hcs HV HV0 hc hi hrv h10
 go_enter Tryz.func71,Tryz.ntmps71
 go_wp2_with (go_at_call 111;refine (HA.out).mono ?_;rintro e w1 ⟨rfl,rfl⟩)
 go_quiet ((go_at_call 116;exact Calls.quiet_of_same (HX.out _)))
 go_wp2_with fail
 obtain ⟨wq,HWQ⟩:∃ wq,Hid (wq=w1.drewN nq):=⟨_,rfl⟩
 have HB0:Hid (Below w1.heap.size w1 wq):=by unfold Hid;rw [HWQ.out];exact below_drewN (Below.refl _ _) nq
 have HSZ:Hid (wq.heap.size=w1.heap.size):=by unfold Hid;rw [HWQ.out];rfl
 have hrow0:=own_below hrow HB0.out
 have x0:=(HB0.out.cell (p:=⟨gn,0,none⟩) hgn).trans n0
 have x1:=(HB0.out.cell (p:=⟨gn,1,none⟩) hgn).trans n1
 have x3:=(HB0.out.cell (p:=⟨R,3,none⟩) hRlt).trans c3
 have xf:=(HB0.out.frozen (p:=⟨R,3,none⟩) hRlt).trans f3
 have hRq:R<wq.heap.size:=by rw [HSZ.out];exact hRlt
 have hgq:gn<wq.heap.size:=by rw [HSZ.out];exact hgn
 have HPq:=hide (HP.out.below HB0.out)
 rw [← HWQ.out]
 clear HWQ n0 n1 c3 f3 HX HA hrow
 have hbl:Below wq.heap.size wq (wq.alloc (.cells #[.int .i64 (a:Int),.int .i64 (m:Int)] 181)).drew:=(al1 wq _).drew
 have hbk:(wq.alloc (.cells #[.int .i64 (a:Int),.int .i64 (m:Int)] 181)).drew.heap[wq.heap.size]?=some (.cells #[.int .i64 (a:Int),.int .i64 (m:Int)] 181 (0,0)):=heap_alloc_new wq _
 have hone:∀ u ∈ ([.int .i64 (a:Int),.int .i64 (m:Int)]:List Value),u.oneCell'=true:=by
  intro u hu;simp at hu;rcases hu with rfl | rfl <;> rfl
 have hcA:(wq.alloc (.cells #[.int .i64 (a:Int),.int .i64 (m:Int)] 181)).drew.cell? ⟨R,3,none⟩=some (.slice ra rn rcap):=(hbl.cell (by exact hRq)).trans x3
 have hfA:(wq.alloc (.cells #[.int .i64 (a:Int),.int .i64 (m:Int)] 181)).drew.frozen? ⟨R,3,none⟩=false:=(hbl.frozen (by exact hRq)).trans xf
 have HszA:Hid (R<(wq.alloc (.cells #[.int .i64 (a:Int),.int .i64 (m:Int)] 181)).drew.heap.size):=Nat.lt_of_lt_of_le hRq hbl.size
 have HVR:=hide (Ne.symm hrR)
 have HBL:=hide hbl
 have hrow':=own_below hrow0 hbl
 have hrvb:(Value.slice ra rn rcap).ownBlock=ro.rv.ownBlock:=by rw [HRVs.out,HRN.out]
 have HFN:Hid (∀ (g2 cap2:Nat) (w5:World),(wq.alloc (.cells #[.int .i64 (a:Int),.int .i64 (m:Int)] 181)).drew.grownBy w5 (Value.slice ra rn rcap).ownBlock→w5.ownsRow 0 181 2 (.slice (some ⟨g2,0,none⟩) (rn+1) cap2) (rn+1) (lflat rcs++[.int .i64 (a:Int),.int .i64 (m:Int)])→((Value.slice ra rn rcap).ownBlock=some g2∨g2=wq.heap.size+1) →
   RV os (rcs++[(a,m)]) { ro with rv:=.slice (some ⟨g2,0,none⟩) (rn+1) cap2 } (w5.setCell ⟨R,3,none⟩ (.slice (some ⟨g2,0,none⟩) (rn+1) cap2)) R v td rec fs ls∧(∀ b,OB { ro with rv:=.slice (some ⟨g2,0,none⟩) (rn+1) cap2 } b→OB ro b∨w1.heap.size≤b)∧Kp (fun b=>b=R∨ro.rv.ownBlock=some b) w1 (w5.setCell ⟨R,3,none⟩ (.slice (some ⟨g2,0,none⟩) (rn+1) cap2))∧gn<(w5.setCell ⟨R,3,none⟩ (.slice (some ⟨g2,0,none⟩) (rn+1) cap2)).heap.size∧(w5.setCell ⟨R,3,none⟩ (.slice (some ⟨g2,0,none⟩) (rn+1) cap2)).cell? ⟨gn,0,none⟩=some (.int .i64 (a:Int))):=fun g2 cap2 w5 hgrow hown5 hat=>by
  have hat':∀ g,(Value.slice (some ⟨g2,0,none⟩) (rn+1) cap2).ownBlock=some g→ro.rv.ownBlock=some g∨wq.heap.size≤g:=fun g hg=>by
   cases hg
   rcases hat with q | q
   ·left;rw [← hrvb];exact q
   ·right;show wq.heap.size≤g2;omega
  have hgn5:w5.heap[gn]?=w1.heap[gn]?:=by
   rw [hgrow.block gn (by have:=hbl.size;omega) (fun e=>by
    obtain ⟨cs',hc'⟩:=own_ty hrow0 e.symm
    exact ty_ne ((HB0.out.block gn hgn).trans HCS.out) hc' (by decide) rfl),hbl.block gn hgq,HB0.out.block gn hgn]
  have hgR:gn≠R:=ty_ne HCS.out HP.out.store (by decide)
  refine ⟨HPq.out.recl (fun k hk=>hbl.block k hk) hbl.size (by rw [← hrvb];exact hgrow) (by rw [lflat_app,List.length_append,List.length_singleton,← HRN.out];exact hown5) hat' HRC.out,fun b hb=>?_,?_,?_,?_⟩
  ·rcases OB_recl hat' b hb with q | q
   ·exact Or.inl q
   ·right;rw [HSZ.out] at q;exact q
  ·refine Kp.setCell (Z:=fun b=>b=R∨ro.rv.ownBlock=some b) ?_ (p:=⟨R,3,none⟩) (Or.inl (Or.inl rfl)) _
   refine Kp.grown (kpB (HB0.out.trans (hbl.mono (by rw [HSZ.out];exact Nat.le_refl _)))) hgrow (fun k hk=>Or.inl (Or.inr (by rw [← hrvb];exact hk)))
  ·have hs5:=hgrow.size;have hs6:=hbl.size;simp [World.setCell];omega
  ·have hq:(w5.setCell ⟨R,3,none⟩ (.slice (some ⟨g2,0,none⟩) (rn+1) cap2)).heap[gn]?=w1.heap[gn]?:=by rw [Below.heap_setCell _ _ _ _ hgR];exact hgn5
   exact (World.cell?_of_block (a:=⟨gn,0,none⟩) hq).trans ((HB0.out.cell (p:=⟨gn,0,none⟩) hgn).symm.trans x0)
 go_cut [] from 12 (fun w6=>∃ ro',RV os (rcs++[(a,m)]) ro' w6 R v td rec fs ls∧(∀ b,OB ro' b→OB ro b∨w1.heap.size≤b)∧Kp (fun b=>b=R∨ro.rv.ownBlock=some b) w1 w6∧gn<w6.heap.size∧w6.cell? ⟨gn,0,none⟩=some (.int .i64 (a:Int)))
 case first =>
  go_region_law (refine step_append_lies _ (by rfl) _ _ _ (by rfl) 0 181 ip (.agg #[.int .i64 0,.int .i64 0]) 2 16 tUParts hip hp0 hp1 hp2 rfl (by decide) (.slice ra rn rcap) rn (lflat rcs) (by rfl) hrow' ⟨wq.heap.size,0,none⟩ 1 1 [.int .i64 (a:Int),.int .i64 (m:Int)] (by rfl) (by rfl) (World.news_of_block hbk) hone (by decide) (by unfold maxLen;omega) (by omega) (Nat.zero_le _) (wq.heap.size+1) (by simp) ?_;intro g2 cap2 w5 hown5 hgrow hat hlt5;have hcw:=(hgrow.cell_far ⟨R,3,none⟩ HszA.out HVR.out).trans hcA;have hfw:=(hgrow.frozen_far ⟨R,3,none⟩ HszA.out HVR.out).trans hfA)
  all_goals
   have HFI:=hide (HFN.out g2 cap2 w5 hgrow hown5 hat)
   clear hown5 hgrow hat hlt5 hcw hfw hcA hfA x0 x1 x3 xf hbl hbk hone hrow' hrow0 HFN
   go_wp2_with fail
   go_meet
   case rel=>exact ⟨_,HFI.out⟩
 case rest =>
  obtain ⟨ro',hrv6,hob6,hkp6,hgn6,y0⟩:=hcut
  obtain ⟨w6,rfl⟩:∃ w6,w6=wc:=⟨wc,rfl⟩
  have HRV6:=hide hrv6
  have HOB6:=hide hob6
  have HKP6:=hide hkp6
  clear hrv6 hob6 hkp6 x0 x1 x3 xf hbl hbk hone hrow' hrow0 HFN hcA hfA HszA HVR HBL hrvb
  have hA1:Below w6.heap.size w6 (w6.alloc (.cells #[.int .i64 0] 3)):=al1 w6 _
  have HCM:=hide (comes_any (HRV6.out.below hA1) a h1)
  have HOUT0:Hid ((w6.alloc (.cells #[.int .i64 0] 3)).ownsRow w6.heap.size 3 1 (.slice (some ⟨w6.heap.size,0,none⟩) 1 1) 1 (I [0])):=World.ownsRow_lit w6 #[.int .i64 0] 1 (Nat.le_refl _) (by unfold maxLen;omega) rfl
  have HA1:=hide hA1
  have HCL:Hid ((comL ls a).length≤31):=by
   have q1:=comL_len ls a
   have q2:=HRV6.out.room
   unfold Hid;omega
  have HCB:Hid (∀ n ∈ comL ls a,n≤2147483647):=fun n hn=>by
   obtain ⟨q1,q2⟩:=comL_idx HI.out hn
   have:=(HRV6.out.ok _ (mem_getD q1)).id
   rw [q2] at this;exact this
  clear hA1
  go_wp2_with (first
   | (go_at_call 118;refine (HCM.out).mono ?_;rintro e w7 ⟨hb7,v7,rfl,hrow7⟩;have HB7:=hide hb7;have HSO:=hide (sorted_any hrow7 HCL.out (comL_nodup ls a) HCB.out);clear hb7 hrow7)
   | (go_at_call 117;refine (HSO.out).mono ?_;rintro e w8 ⟨hb8,v8,s,rfl,hperm,hsrt,hrow8⟩))
  have hspos:0<s.length:=by
   rw [hperm.length_eq]
   have:=comP_ge ls [a] ls.length (Nat.le_refl _)
   rw [List.take_length] at this
   unfold comL;exact this
  obtain ⟨sg,sc,hsv,hsgb,hsglt⟩:=own_some hrow8 hspos
  subst hsv
  have hA7:w6.heap.size+1≤w7.heap.size:=by have:=HB7.out.size;simp at this;exact this
  have hb68:Below w6.heap.size w6 w8:=HA1.out.trans ((HB7.out.mono HA1.out.size).trans (hb8.mono (Nat.le_trans HA1.out.size HB7.out.size)))
  have HINI:Hid (RecI w6 w8 os (rcs++[(a,m)]) ro' R v td rec fs ls s sg sc w8 0 w6.heap.size 1):=⟨HRV6.out.below hb68,own_base hrow8,own_below HOUT0.out (HB7.out.trans (hb8.mono HB7.out.size)),Or.inl rfl,hb68,Nat.le_refl _⟩
  have HPM:=hide hperm
  have HSR:=hide hsrt
  have HSL:Hid (s.length≤31):=by unfold Hid;rw [hperm.length_eq];exact HCL.out
  have hsl31:s.length≤31:=HSL.out
  have hs68:=hb68.size
  have HSG:Hid (w6.heap.size<sg∧sg<w8.heap.size):=⟨by omega,hsglt⟩
  have hlspos:0<ls.length:=by have:=HI.out;omega
  clear hperm hsrt hrow8 hb8 hb68 hsgb hA7 HSO HB7 HCM HOUT0 HA1 y0 hsglt hs68
  go_loopw [8,10,11] (fun oo ii _ wr=>∃ (k g c:Nat),ii=.int .i64 k∧k≤s.length∧oo=.slice (some ⟨g,0,none⟩) (1+(hN ls (s.take k)).length * 2) c∧RecI w6 w8 os (rcs++[(a,m)]) ro' R v td rec fs ls s sg sc wr k g c) (fun _ ii _ _=>s.length - (intOf ii).toNat)
  case atStart=>exact ⟨0,w6.heap.size,1,rfl,by omega,rfl,HINI.out⟩
  case round =>
   clear HINI
   obtain ⟨k,g,oc,rfl,hk,rfl,hI⟩:=hrel
   have hql:(hN ls (s.take k)).length≤31:=by
    have q1:=hN_len ls (s.take k)
    rw [List.length_take] at q1;omega
   by_cases hlt:k<s.length
   ·have hmem:s.getD k 0 ∈ comL ls a:=HPM.out.mem_iff.1 (by simp [List.getD_eq_getElem?_getD,hlt])
    obtain ⟨hc,hcid⟩:=comL_idx HI.out hmem
    have hck:=ownInts_cell hI.row k hlt
    have hxb:=HCB.out _ hmem
    have HAT:=hide (at_any hI.rv (s.getD k 0) hxb)
    have hatv:atV ls (s.getD k 0)=(idx (s.getD k 0) ls:Int):=by unfold atV;rw [if_pos hc]
    rw [hatv] at HAT
    obtain ⟨va,vcap,hv,hcells⟩:=hI.rv.shape
    obtain ⟨G,hG,hGlt,hcl⟩:=hcells hlspos
    subst hG
    have cR:=hI.rv.c1
    rw [hv] at cR
    have e6:wr.cell? ⟨G,idx (s.getD k 0) ls * 11+6,none⟩=some (.int .i64 (heldOfN ls (s.getD k 0):Int)):=hcl _ hc 6 (by omega)
    have hok:=hI.rv.ok _ (mem_getD hc)
    have hhb:heldOfN ls (s.getD k 0)≤2147483647:=by have:=hok.sum;unfold heldOfN;omega
    have HN1:Hid (0<heldOfN ls (s.getD k 0)→hN ls (s.take (k+1))=hN ls (s.take k)++[s.getD k 0]∧tN ls (hN ls (s.take (k+1)))=tN ls (hN ls (s.take k))++[s.getD k 0,heldOfN ls (s.getD k 0)]):=fun hp=>by
     have e:=hN_take (ls:=ls) hlt
     rw [if_pos hp] at e
     exact ⟨e,by rw [e,tN_snoc]⟩
    have HN0:Hid (¬ 0<heldOfN ls (s.getD k 0)→hN ls (s.take (k+1))=hN ls (s.take k)):=fun hp=>by
     rw [hN_take (ls:=ls) hlt,if_neg hp]
    generalize heldOfN ls (s.getD k 0)=hd at *
    generalize hx:s.getD k 0=x at *
    generalize idx x ls=c at *
    have HII:=hide hI
    have HVV:=hide hv
    clear hx hmem hcid hatv hcells hcl hok hI hv
    by_cases hpos:0<hd
    ·obtain ⟨HN,HT⟩:Hid (hN ls (s.take (k+1))=hN ls (s.take k)++[x])∧Hid (tN ls (hN ls (s.take (k+1)))=tN ls (hN ls (s.take k))++[x,hd]):=HN1.out hpos
     obtain ⟨qn,HQN⟩:∃ qn,Hid (qn=(hN ls (s.take k)).length):=⟨_,rfl⟩
     rw [← HQN.out] at hql
     rw [← HQN.out]
     have hout:=HII.out.out
     rw [← HQN.out] at hout
     have hc0:wr.cell? ⟨g,0,none⟩=some (.int .i64 (qn:Int)):=by rw [hout.cellAt 0 (by omega)];rfl
     have hf0:=hout.frozenAt 0
     have hg1:=(hout.lt g rfl).1
     have HO:=hide hout
     clear HN1 HN0 hout
     go_wp2_with (go_at_call 111;with_reducible refine (HAT.out).mono ?_;rintro e w3 ⟨rfl,hw3⟩;have hw4:=hw3.symm;subst hw4)
     have hgs:¬ sg=g:=by
      have q1:=HSG.out
      rcases HII.out.at' with q | q <;> omega
     have hgsw:∀ b,b≠g→(wr.setCell ⟨g,0,none⟩ (.int .i64 ((qn:Int)+1))).heap[b]?=wr.heap[b]?:=fun b hb=>Below.heap_setCell _ _ _ _ hb
     have hty:∀ (b:Nat) (cs:Array Value) (t:TypeId),wr.heap[b]?=some (.cells cs t (0,0))→t≠3→b≠g:=fun b cs t hb ht=>by
      obtain ⟨cs',hc'⟩:=own_ty HO.out (g:=g) rfl
      exact ty_ne hb hc' ht
     have HRT:Hid (RV os (rcs++[(a,m)]) ro' (wr.setCell ⟨g,0,none⟩ (.int .i64 ((qn:Int)+1))) R v td rec fs ls):=HII.out.rv.typed (fun b cs t hb ht=>hgsw b (hty b cs t hb ht))
     have HWT:Hid ((wr.setCell ⟨g,0,none⟩ (.int .i64 ((qn:Int)+1))).ownsRow 0 3 1 (.slice (some ⟨sg,0,none⟩) s.length sc) s.length (I s)):=own_congr HII.out.row (fun b hb=>hgsw b (by cases hb;exact hgs))
     have HOT:Hid ((wr.setCell ⟨g,0,none⟩ (.int .i64 ((qn:Int)+1))).ownsRow w6.heap.size 3 1 (.slice (some ⟨g,0,none⟩) (1+qn * 2) oc) (1+qn * 2) (I ((qn+1) :: tN ls (hN ls (s.take k))))):=(HO.out.stored 0 (.int .i64 ((qn:Int)+1))).1
     have HBT:Hid (Below w6.heap.size w6 (wr.setCell ⟨g,0,none⟩ (.int .i64 ((qn:Int)+1)))):=HII.out.below.setCell (p:=⟨g,0,none⟩) hg1 _
     have HST:Hid (w8.heap.size≤(wr.setCell ⟨g,0,none⟩ (.int .i64 ((qn:Int)+1))).heap.size):=by have:=HII.out.sz;unfold Hid;simp;exact this
     have hRg:¬ R=g:=hty _ _ _ HII.out.rv.store (by decide)
     have hGg:¬ G=g:=by
      have hrowv:=HII.out.rv.row
      rw [HVV.out] at hrowv
      obtain ⟨csG,hcsG⟩:=own_ty hrowv rfl
      exact hty _ _ _ hcsG (by decide)
     have z1:(wr.setCell ⟨g,0,none⟩ (.int .i64 ((qn:Int)+1))).cell? ⟨sg,k,none⟩=some (.int .i64 (x:Int)):=(World.cell?_of_block (a:=⟨sg,k,none⟩) (hgsw _ hgs)).trans hck
     have z2:(wr.setCell ⟨g,0,none⟩ (.int .i64 ((qn:Int)+1))).cell? ⟨R,1,none⟩=some (.slice (some ⟨G,0,none⟩) ls.length vcap):=(World.cell?_of_block (a:=⟨R,1,none⟩) (hgsw _ hRg)).trans cR
     have z3:(wr.setCell ⟨g,0,none⟩ (.int .i64 ((qn:Int)+1))).cell? ⟨G,c * 11+6,none⟩=some (.int .i64 (hd:Int)):=(World.cell?_of_block (a:=⟨G,c * 11+6,none⟩) (hgsw _ hGg)).trans e6
     have HAT':=hide HII.out.at'
     clear hgsw hty hck cR e6 hc0 hf0 HII HO hgs hRg hGg
     generalize wr.setCell ⟨g,0,none⟩ (.int .i64 ((qn:Int)+1))=wt at *
     have hszT:w6.heap.size≤wt.heap.size:=HBT.out.size
     have hbl:Below wt.heap.size wt (wt.alloc (.cells #[.int .i64 (x:Int),.int .i64 (hd:Int)] 3)).drew:=(al1 wt _).drew
     have hbk:(wt.alloc (.cells #[.int .i64 (x:Int),.int .i64 (hd:Int)] 3)).drew.heap[wt.heap.size]?=some (.cells #[.int .i64 (x:Int),.int .i64 (hd:Int)] 3 (0,0)):=heap_alloc_new wt _
     have hone:∀ u ∈ ([.int .i64 (x:Int),.int .i64 (hd:Int)]:List Value),u.oneCell'=true:=by
      intro u hu;simp at hu;rcases hu with rfl | rfl <;> rfl
     have hout3:=own_below HOT.out hbl
     have HBL:=hide hbl
     go_region_law (refine step_append_lies _ (by rfl) _ _ _ (by rfl) w6.heap.size 3 i3 (.int .i64 0) 1 8 tUInts hi3 hy0 hy1 hy2 rfl (by decide) (.slice (some ⟨g,0,none⟩) (1+qn * 2) oc) (1+qn * 2) (I ((qn+1) :: tN ls (hN ls (s.take k)))) (by rfl) hout3 ⟨wt.heap.size,0,none⟩ 2 2 [.int .i64 (x:Int),.int .i64 (hd:Int)] (by rfl) (by rfl) (World.news_of_block hbk) hone (by decide) (by unfold maxLen;omega) (by omega) (by simp;omega) (wt.heap.size+1) (by simp) ?_;intro g2 cap2 w5 hown5 hgrow hat hlt5)
     all_goals
      have hnl:(hN ls (s.take (k+1))).length=qn+1:=by rw [HN.out,List.length_append,List.length_singleton,← HQN.out]
      have e1:I ((qn+1) :: tN ls (hN ls (s.take k)))++[.int .i64 (x:Int),.int .i64 (hd:Int)]=I ((hN ls (s.take (k+1))).length :: tN ls (hN ls (s.take (k+1)))):=by rw [hnl,HT.out];simp [I]
      rw [e1] at hown5
      have hb5:∀ b,b<wt.heap.size→b≠g→w5.heap[b]?=wt.heap[b]?:=fun b hb hne=>(hgrow.block b (Nat.lt_of_lt_of_le hb HBL.out.size) (fun e=>hne (by injection e))).trans (HBL.out.block b hb)
      have hne3:∀ (b:Nat) (cs:Array Value) (t:TypeId),wt.heap[b]?=some (.cells cs t (0,0))→t≠3→w5.heap[b]?=wt.heap[b]?:=fun b cs t hb ht=>hb5 b (blk_lt hb) (by
       obtain ⟨cs',hc'⟩:=own_ty HOT.out (g:=g) rfl
       exact ty_ne hb hc' ht)
      have hsgne:sg≠g:=by
       have q1:=HSG.out
       rcases HAT'.out with q | q <;> omega
      have hsgl:sg<wt.heap.size:=Nat.lt_of_lt_of_le HSG.out.2 HST.out
      have HI5:Hid (RecI w6 w8 os (rcs++[(a,m)]) ro' R v td rec fs ls s sg sc w5 (k+1) g2 cap2):=by
       refine ⟨HRT.out.typed hne3,own_congr HWT.out (fun b hb=>by cases hb;exact hb5 sg hsgl hsgne),?_,?_,?_,?_⟩
       ·rw [show 1+(hN ls (s.take (k+1))).length * 2=1+qn * 2+2 by rw [hnl];omega];exact hown5
       ·rcases hat with q | q
        ·injection q with q;rw [← q];exact HAT'.out
        ·right;have:=HST.out;omega
       ·exact (HBT.out.trans (HBL.out.mono hszT)).grown hgrow (Nat.le_trans hszT HBL.out.size) (fun b hb=>by injection hb with hb;rw [← hb];exact hg1)
       ·exact Nat.le_trans HST.out (Nat.le_trans HBL.out.size hgrow.size)
      have HNL:=hide hnl
      clear hnl e1 hown5 hgrow hat hlt5 hb5 hne3 hsgne hsgl hbl hbk hone hout3 z1 z2 z3
      go_wp2_with fail
      go_roundw
      case rel=>exact ⟨k+1,g2,cap2,by go_num,by omega,by rw [HNL.out,show 1+(qn+1) * 2=1+qn * 2+2 by omega],HI5.out⟩
      case measure=>simp [intOf];omega
    ·have HN:=hide (HN0.out hpos)
     clear HN1 HN0
     go_wp2_with (go_at_call 111;with_reducible refine (HAT.out).mono ?_;rintro e w3 ⟨rfl,hw3⟩;have hw4:=hw3.symm;subst hw4)
     go_roundw
     case rel=>exact ⟨k+1,g,oc,by go_num,by omega,by rw [HN.out],⟨HII.out.rv,HII.out.row,by rw [HN.out];exact HII.out.out,HII.out.at',HII.out.below,HII.out.sz⟩⟩
     case measure=>simp [intOf];omega
   ·obtain rfl:k=s.length:=by omega
    have HII:=hide hI
    have hout:=hI.out
    rw [List.take_length] at hout
    have HTD:=hide (held_told HRV6.out.fam.ids HI.out HPM.out HSR.out)
    have HTL:Hid ((toldQ ls (heldQ ls a)).length=1+(hN ls (s.take s.length)).length * 2):=by
     unfold Hid;rw [← HTD.out,List.take_length,List.length_cons,tN_len];omega
    have HRW:Hid (Rw wr g (toldQ ls (heldQ ls a))):=by
     have hlt':=(hout.lt g rfl).2
     rw [HTD.out] at hout
     have hl2:=HTL.out
     rw [List.take_length] at hl2
     rw [← hl2] at hout
     exact ⟨hlt',fun j hj=>ownInts_cell hout j hj⟩
    have HKF:Hid (Kp (fun b=>b=R∨ro.rv.ownBlock=some b) w1 wr):=HKP6.out.after hI.below
    have HGR:Hid (g≠R):=by
     have q1:=(hI.out.lt g rfl).1
     have q2:=HKP6.out.size
     unfold Hid;omega
    clear hI hout hlt
    go_wp2_with fail
    go_ret2
    exact ⟨HKF.out,⟨ro',HII.out.rv,HOB6.out⟩,g,oc,by rw [HTL.out];rfl,HGR.out,HRW.out⟩
end Go.Proofs.YtgcedalggnmooaaGreatDoor
namespace Go.Proofs.YtgcedalggnmooaaGreatDoor
open Go.RowKit
theorem recallsR_any {rcs:List (Nat × Nat)} {Z:Nat→Prop} {w:World} {R td:Nat} {rec:ByteArray} {ls:List L} {os:List O} (h:RI os rcs Z w R td rec ls) (gn cap a m:Nat) (hn:NS w gn [a,m]) (h1:a≤2147483647) (h2:m≤2147483647) :
  Calls Tryz.prog 71 #[.pointer (some ⟨R,0,none⟩),.slice (some ⟨gn,0,none⟩) 2 cap] w fun e w'=>Kp Z w w'∧RI os (recallS rcs ls a m) (Zn Z w) w' R td rec ls ∧
   ((recallC rcs ls a m≠0∧e=.returned (.tuple #[.slice none 0 0,.int .i64 (recallC rcs ls a m:Int)]))∨(recallC rcs ls a m=0∧∃ g c,e=.returned (.tuple #[.slice (some ⟨g,0,none⟩) (toldQ ls (heldQ ls a)).length c,.int .i64 0])∧g≠R∧Rw w' g (toldQ ls (heldQ ls a)))):=by
 obtain ⟨v,fs,ro,hP,hZ,hZv,hZo⟩:=h
 by_cases hc:recallC rcs ls a m=0
 ·obtain ⟨q1,q2,q3⟩:=recallC_zero hc
  unfold recallS
  rw [if_pos hc]
  refine (recallsR_ok hP gn cap a m hn h1 h2 q1 q2 q3).mono ?_
  rintro e w' ⟨hk,⟨ro',hrv,hob⟩,g,c,he,hgR,hr⟩
  refine ⟨hk.mono (fun k hk=>?_),⟨v,fs,ro',hrv,Or.inl hZ,fun g hg=>Or.inl (hZv g hg),fun g hg=>(hob g hg).elim (fun h=>Or.inl (hZo g h)) Or.inr⟩,Or.inr ⟨hc,g,c,he,hgR,hr⟩⟩
  rcases hk with rfl | hk
  ·exact hZ
  ·exact hZo k (Or.inr (Or.inr (Or.inl hk)))
 ·unfold recallS
  rw [if_neg hc]
  refine (recallsR_no hP gn cap a m hn h1 h2 hc).mono ?_
  rintro e w' ⟨hb,he⟩
  exact ⟨kpB hb,⟨v,fs,ro,hP.below hb,Or.inl hZ,fun g hg=>Or.inl (hZv g hg),fun g hg=>Or.inl (hZo g hg)⟩,Or.inl ⟨hc,he⟩⟩
set_option maxHeartbeats 1600000 in
theorem doesR_recall {Q:Ending→World→Prop} {w:World} {R:Nat} (gn cap:Nat)
  (HC:Hid (Calls Tryz.prog 71 #[.pointer (some ⟨R,0,none⟩),.slice (some ⟨gn,0,none⟩) 2 cap] w fun e w'=>∃ a l c n,e=.returned (.tuple #[.slice a l c,.int .i64 n])∧Q e w')) :
  Calls Tryz.prog 51 #[.pointer (some ⟨R,0,none⟩),.int .i64 8,.slice (some ⟨gn,0,none⟩) 2 cap] w Q:=by
 go_enter Tryz.func51,Tryz.ntmps51
 go_wp2_with (go_at_call 71;refine (HC.out).mono ?_;rintro e w1 ⟨a,l,c,n,rfl,hq⟩)
 exact hq
theorem releaseR_ri {rcs:List (Nat × Nat)} {Z:Nat→Prop} {w:World} {R td:Nat} {rec:ByteArray} {ls:List L} {os:List O} (h:RI os rcs Z w R td rec ls) (gn cap a m:Nat) (hn:NS w gn [a,m]) (h1:a≤2147483647) (h2:m≤2147483647) :
  Calls Tryz.prog 72 #[.pointer (some ⟨R,0,none⟩),.slice (some ⟨gn,0,none⟩) 2 cap] w fun e w'=>Kp Z w w'∧e=.returned (.int .i64 (releaseC rcs a m:Int))∧RI os (releaseS rcs a m) (Zn Z w) w' R td rec ls:=by
 obtain ⟨v,fs,ro,hP,hZ,hZv,hZo⟩:=h
 refine (releaseR_any hP gn cap a m hn h1 h2).mono ?_
 rintro e w' ⟨hk,he,ro',hrv,hob⟩
 exact ⟨hk.mono (fun k hk=>by rw [hk];exact hZ),he,v,fs,ro',hrv,Or.inl hZ,fun g hg=>Or.inl (hZv g hg),fun g hg=>(hob g hg).elim (fun h=>Or.inl (hZo g h)) Or.inr⟩
set_option maxHeartbeats 1600000 in
theorem doesR_release {rcs:List (Nat × Nat)} {Z:Nat→Prop} {w:World} {R td:Nat} {rec:ByteArray} {ls:List L} {os:List O} (h:RI os rcs Z w R td rec ls) (gn cap a m:Nat) (hn:NS w gn [a,m]) (h1:a≤2147483647) (h2:m≤2147483647) :
  Calls Tryz.prog 51 #[.pointer (some ⟨R,0,none⟩),.int .i64 9,.slice (some ⟨gn,0,none⟩) 2 cap] w fun e w'=>Kp Z w w'∧e=.returned (.tuple #[.slice none 0 0,.int .i64 (releaseC rcs a m:Int)])∧RI os (releaseS rcs a m) (Zn Z w) w' R td rec ls:=by
 have HC:=hide (releaseR_ri h gn cap a m hn h1 h2)
 generalize releaseS rcs a m=rs' at HC ⊢
 generalize releaseC rcs a m=rc at HC ⊢
 clear h hn
 go_enter Tryz.func51,Tryz.ntmps51
 go_wp2_with (go_at_call 72;refine (HC.out).mono ?_;rintro e w1 ⟨hk,rfl,hri⟩)
 go_ret2
 exact ⟨hk,rfl,hri⟩
set_option maxHeartbeats 1600000 in
theorem hR_told2 {rcs:List (Nat × Nat)} {Z:Nat→Prop} {os:List O} (w:World) (R td:Nat) (rec:ByteArray) (hrec:rec.size≤1000000000000000) (ls:List L) (s:ByteArray) (hs:s.size≤2097143) (c:Nat) (hc10:c≤10) (ns:List Nat) (hc:Pl.cmd s.data.toList=.ok (c,ns)) (rs:List Nat) (hrs:∀ n ∈ rs,n<9223372036854775808) (hrl:rs.length≤100)
  (HD:Hid (∀ w1,Below w.heap.size w w1→DoesAt R c ns w1 fun e w'=>Kp Z w1 w'∧RI os rcs (Zn Z w1) w' R td rec ls∧∃ g cp,e=.returned (.tuple #[.slice (some ⟨g,0,none⟩) rs.length cp,.int .i64 0])∧g≠R∧Rw w' g rs)) (hZ:Z R) :
  Calls Tryz.prog 37 #[.pointer (some ⟨R,0,none⟩),.string s] w fun e w'=>e=.returned (.string ⟨(0 :: Pl.toldB rs).toArray⟩)∧Kp Z w w'∧∃ rec',rec'=recF rec s∧RI os rcs (Zn Z w) w' R td rec' ls:=by
 have HC:=hide (command_ok s (by omega) w c ns hc)
 generalize hm:ns.length=m at HC
 have HM:=hide hm
 have hbd:=Pl.toldB_len rs hrs
 have HT:=hide (fun (b cp:Nat) (w:World) (hbw:b<w.heap.size) hc=>told_some b cp rs hrs (by omega) w hbw hc)
 obtain ⟨rl,HRL⟩:∃ rl,Hid (rl=rs.length):=⟨_,rfl⟩
 rw [← HRL.out] at HD HT hrl hbd
 clear hc hm hrs
 go_enter Tryz.func37,Tryz.ntmps37
 go_wp2_with fail
 refine (HC.out).mono ?_
 rintro e w1 ⟨hb1,gn,cap,rfl,hns⟩
 have HD1:=hide (HD.out w1 hb1 gn cap hns)
 rw [HM.out] at HD1
 clear hns
 go_wp2_with fail
 refine (HD1.out).mono ?_
 rintro e w2 ⟨hk,hri,g,cp,rfl,hgR,hrw⟩
 have HRW:=hide hrw
 clear hrw
 go_wp2_with fail
 refine (frame_fx s hs w2).mono ?_
 rintro e w3 ⟨hb3,f,rfl,hf,hfe⟩
 have HFE:=hide hfe
 clear hfe
 obtain ⟨v,fs,ro,hrv,hz1,hz2,hz3⟩:=hri
 have hrv3:=hrv.below hb3
 have c4:=hrv3.c4
 have f4:=blk_free hrv3.store 4
 have hRW4:∀ u,Rw (w3.setCell ⟨R,4,none⟩ u) g rs:=fun u=>by
  have hs4:(w3.setCell ⟨R,4,none⟩ u).heap[g]?=w2.heap[g]?:=(Below.heap_setCell _ _ _ _ hgR).trans (hb3.block g HRW.out.1)
  refine ⟨Nat.lt_of_lt_of_le HRW.out.1 (Nat.le_trans hb3.size (grownBy_setCell w3 ⟨R,4,none⟩ u).size),fun j hj=>(World.cell?_of_block (a:=⟨g,j,none⟩) hs4).trans (HRW.out.2 j hj)⟩
 have HT2:=hide (fun u=>HT.out g cp (w3.setCell ⟨R,4,none⟩ u) (hRW4 u).1 (by rw [HRL.out];exact (hRW4 u).2))
 have HRV:=hide hrv3
 clear hrv hrv3 hRW4 hgR
 go_wp2_with fail
 refine (HT2.out _).mono ?_
 rintro e w5 ⟨rfl,hb5⟩
 go_wp2_with fail
 go_ret
 refine ⟨ret_strB (ByteArray.mk_append_mk [0] (Pl.toldB rs)),?_,rec++f,?_,v,fs,ro,(HRV.out.recs _).below hb5,?_,?_,?_⟩
 ·exact ((Kp.before hb1 ((hk.after hb3).mono (fun k h=>Or.inl h))).setCell (p:=⟨R,4,none⟩) (Or.inl hZ) _).after hb5
 ·rw [HFE.out];rfl
 ·exact Or.inl hZ
 ·intro g hg
  rcases hz2 g hg with h | h
  ·exact Or.inl h
  ·exact Or.inr (Nat.le_trans hb1.size h)
 ·intro g hg
  rcases hz3 g hg with h | h
  ·exact Or.inl h
  ·exact Or.inr (Nat.le_trans hb1.size h)
theorem hR_code2 {rcs:List (Nat × Nat)} {Z:Nat→Prop} {os:List O} {w:World} {R td:Nat} {rec:ByteArray} (hZR:Z R) (hrec:rec.size≤1000000000000000) (s:ByteArray) (hs:s.size≤2097143) (c:Nat) (hc10:c≤10) (ns:List Nat) (hcf:Pl.cmd s.data.toList=.ok (c,ns)) (rc:Nat) (hrc:rc≤99) (ls':List L)
  (HD:∀ w1,Below w.heap.size w w1→DoesAt R c ns w1 fun e w'=>Kp Z w1 w'∧e=.returned (.tuple #[.slice none 0 0,.int .i64 (rc:Int)])∧RI os rcs (Zn Z w1) w' R td rec ls') :
  Calls Tryz.prog 37 #[.pointer (some ⟨R,0,none⟩),.string s] w fun e w'=>e=.returned (.string ⟨[UInt8.ofNat rc].toArray⟩)∧Kp Z w w'∧∃ rec',RecX rec s rec' [UInt8.ofNat rc]∧RI os rcs (Zn Z w) w' R td rec' ls':=by
 have hs':s.size≤2097152:=by omega
 by_cases h0:rc=0
 ·subst h0
  refine (hR_log (os:=os) (rcs:=rcs) w R td rec hrec ls' s hs c hc10 ns hcf (fun w1 hb1 gn cap hn=>?_) hZR).mono ?_
  ·refine (HD w1 hb1 gn cap hn).mono ?_
   rintro e w2 ⟨hk,q2,q3⟩
   exact ⟨q2,hk,q3⟩
  ·rintro e w' ⟨h1,h2,rec',h3,h4⟩
   exact ⟨h1,h2,rec',RecX.yes hcf (by omega) h3 hs rfl,h4⟩
 ·refine (hR_err w R s hs' c ns hcf rc (by omega) (by omega) (fun w2=>Kp Z w w2∧RI os rcs (Zn Z w) w2 R td rec ls') (fun w1 hb1 gn cap hn=>?_)).mono ?_
  ·refine (HD w1 hb1 gn cap hn).mono ?_
   rintro e w2 ⟨hk,q2,q3⟩
   exact ⟨q2,Kp.before hb1 (hk.mono (fun k h=>Or.inl h)),q3.mono (fun k hk=>hk.elim Or.inl (fun h=>Or.inr (Nat.le_trans hb1.size h)))⟩
  ·rintro e w' ⟨h1,w2,⟨q1,q2⟩,hb2⟩
   exact ⟨h1,q1.after hb2,rec,RecX.no1 (ofNat_ne0 h0 (by omega)),q2.below hb2⟩
theorem hR_recall {rcs:List (Nat × Nat)} {Z:Nat→Prop} {w:World} {R td:Nat} {rec:ByteArray} {ls:List L} {os:List O} (h:RI os rcs Z w R td rec ls) (hrec:rec.size≤1000000000000000) (s:ByteArray) (hs:s.size≤2097143) (a m:Nat) (hcf:Pl.cmd s.data.toList=.ok (8,[a,m])) (h1:a≤2147483647) (h2:m≤2147483647) :
  Calls Tryz.prog 37 #[.pointer (some ⟨R,0,none⟩),.string s] w fun e w'=>e=.returned (.string ⟨(recallR rcs ls a m).toArray⟩)∧Kp Z w w'∧∃ rec',RecX rec s rec' (recallR rcs ls a m)∧RI os (recallS rcs ls a m) (Zn Z w) w' R td rec' ls:=by
 have hZR:Z R:=by obtain ⟨v,fs,ro,_,hz,_⟩:=h;exact hz
 have hs':s.size≤2097152:=by omega
 have HD:=fun (w1:World) (hb1:Below w.heap.size w w1) (gn cap:Nat) (hn:NS w1 gn [a,m])=>recallsR_any (h.below hb1) gn cap a m hn h1 h2
 by_cases h0:recallC rcs ls a m=0
 ·have hlo:∀ x ∈ ls,L.Ok x:=by obtain ⟨v,fs,ro,hP,_⟩:=h;exact hP.ok
  have hlr:ls.length≤30:=by obtain ⟨v,fs,ro,hP,_⟩:=h;exact hP.room
  have hts:=heldT_small hlo hlr a
  have e1:recallR rcs ls a m=0 :: Pl.toldB (toldQ ls (heldQ ls a)):=by unfold recallR;rw [if_pos h0]
  rw [e1]
  refine (hR_told2 (os:=os) (rcs:=recallS rcs ls a m) w R td rec hrec ls s hs 8 (by omega) [a,m] hcf (toldQ ls (heldQ ls a)) hts.1 (by omega) (hide (fun w1 hb1 gn cap hn=>?_)) hZR).mono ?_
  ·refine doesR_recall gn cap (hide ((HD w1 hb1 gn cap hn).mono ?_))
   rintro e w' ⟨hk,hri,hq⟩
   rcases hq with ⟨hne,_⟩ | ⟨_,g,cp,he,hr⟩
   ·exact absurd h0 hne
   ·exact ⟨_,_,_,_,he,hk,hri,g,cp,he,hr⟩
  ·rintro e w' ⟨q1,q2,rec',q3,q4⟩
   exact ⟨q1,q2,rec',RecX.yes hcf (by omega) q3 hs rfl,q4⟩
 ·have hrc:=recallC_le rcs ls a m
  have e1:recallR rcs ls a m=[UInt8.ofNat (recallC rcs ls a m)]:=by unfold recallR;rw [if_neg h0]
  rw [e1]
  refine (hR_err w R s hs' 8 [a,m] hcf (recallC rcs ls a m) (by omega) (by omega) (fun w2=>Kp Z w w2∧RI os (recallS rcs ls a m) (Zn Z w) w2 R td rec ls) (hide (fun w1 hb1 gn cap hn=>?_))).mono ?_
  ·refine doesR_recall gn cap (hide ((HD w1 hb1 gn cap hn).mono ?_))
   rintro e w' ⟨hk,hri,hq⟩
   rcases hq with ⟨_,he⟩ | ⟨hz,_⟩
   ·exact ⟨_,_,_,_,he,he,Kp.before hb1 (hk.mono (fun k h=>Or.inl h)),hri.mono (fun k hk=>hk.elim Or.inl (fun h=>Or.inr (Nat.le_trans hb1.size h)))⟩
   ·exact absurd hz h0
  ·rintro e w' ⟨q1,w2,⟨q2,q3⟩,hb2⟩
   exact ⟨q1,q2.after hb2,rec,RecX.no1 (ofNat_ne0 h0 (by omega)),q3.below hb2⟩
end Go.Proofs.YtgcedalggnmooaaGreatDoor
namespace Go.Proofs.YtgcedalggnmooaaGreatDoor
open Go.RowKit
theorem handleRR_any {rcs:List (Nat × Nat)} {Z:Nat→Prop} {w:World} {R td:Nat} {rec:ByteArray} {ls:List L} {os:List O} (h:RI os rcs Z w R td rec ls) (hgo:Good os ls) (hrec:rec.size≤1000000000000000) (s:ByteArray) (hs:s.size≤2097143) :
  Calls Tryz.prog 37 #[.pointer (some ⟨R,0,none⟩),.string s] w fun e w'=>e=.returned (.string ⟨(stepR rcs td os ls (Pl.cmd s.data.toList)).1.toArray⟩)∧Kp Z w w'∧∃ rec',RecX rec s rec' (stepR rcs td os ls (Pl.cmd s.data.toList)).1∧RI (stepR rcs td os ls (Pl.cmd s.data.toList)).2.2.1 (stepR rcs td os ls (Pl.cmd s.data.toList)).2.2.2.1 (Zn Z w) w' R (stepR rcs td os ls (Pl.cmd s.data.toList)).2.1 rec' (stepR rcs td os ls (Pl.cmd s.data.toList)).2.2.2.2:=by
 have hZR:Z R:=by obtain ⟨v,fs,ro,_,hz,_⟩:=h;exact hz
 rcases playedR_or s.data.toList with hold | ⟨c,ns,hform,hm,hcf,h3,hlen,hlt⟩
 ·rw [stepR_old hold];exact handleRO_any h hgo hrec s hs hold
 ·rw [hcf]
  rcases h3 with rfl | rfl
  ·obtain ⟨a,m,rfl⟩:=len8 hlen
   have hd:a≤2147483647∧m≤2147483647:=by simp [Pl.mays,Pl.kindsL,Pl.mayB] at hm;omega
   exact hR_recall h hrec s hs a m hcf hd.1 hd.2
  ·obtain ⟨a,m,rfl⟩:=len9 hlen
   have hd:a≤2147483647∧m≤2147483647:=by simp [Pl.mays,Pl.kindsL,Pl.mayB] at hm;omega
   have hrc:=releaseC_le rcs a m
   exact hR_code2 hZR hrec s hs 9 (by omega) [a,m] hcf (releaseC rcs a m) (by omega) ls (fun w1 hb1 gn cap hn=>doesR_release (h.below hb1) gn cap a m hn hd.1 hd.2)
end Go.Proofs.YtgcedalggnmooaaGreatDoor
namespace Go.Proofs.YtgcedalggnmooaaGreatDoor
open Go.RowKit
end Go.Proofs.YtgcedalggnmooaaGreatDoor
namespace Go.Proofs.YtgcedalggnmooaaGreatDoor
open Go.RowKit
theorem RI.bound {rcs:List (Nat × Nat)} {Z:Nat→Prop} {w:World} {R td:Nat} {rec:ByteArray} {ls:List L} {os:List O} (h:RI os rcs Z w R td rec ls):RI os rcs (fun k=>Z k∧k<w.heap.size) w R td rec ls:=by
 obtain ⟨v,fs,ro,h1,h2,h3,h4⟩:=h
 exact ⟨v,fs,ro,h1,⟨h2,blk_lt h1.store⟩,fun g hg=>by obtain ⟨cs,hc⟩:=own_ty h1.row hg;exact ⟨h3 g hg,blk_lt hc⟩,fun g hg=>⟨h4 g hg,h1.ord.lt hg⟩⟩
end Go.Proofs.YtgcedalggnmooaaGreatDoor
namespace Go.Proofs.YtgcedalggnmooaaGreatDoor
open Go.RowKit
def begunW (w:World):World :=
 (((((((w.alloc (.map #[] 0)).alloc (.map #[] 0)).alloc (.map #[] 0)).alloc (.cells #[.int .i64 0,.slice none 0 0,.map (some w.heap.size),.map (some (w.heap.size+1)),.map (some (w.heap.size+1+1))] 117)).alloc (.cells #[.pointer (some ⟨w.heap.size+1+1+1,0,none⟩),.slice none 0 0] 91)).alloc (.cells #[.int .i64 0,.slice none 0 0,.slice none 0 0,.slice none 0 0,.string ⟨#[]⟩] 42)).alloc (.cells #[.pointer (some ⟨w.heap.size+1+1+1+1,0,none⟩),.pointer (some ⟨w.heap.size+1+1+1+1+1,0,none⟩)] 46))
end Go.Proofs.YtgcedalggnmooaaGreatDoor
namespace Go.Proofs.YtgcedalggnmooaaGreatDoor
open Go.RowKit
theorem lgX_rec {rec s rec':ByteArray} {rep:List UInt8} (h:RecX rec s rec' rep):lgX rec.data.toList s rep=rec'.data.toList:=by
 rw [h.eq]
 unfold lgX recX
 split
 ·unfold recF frmA;simp
 ·rfl
end Go.Proofs.YtgcedalggnmooaaGreatDoor
