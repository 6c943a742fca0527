import Derived.Test.YtgcedalggnmooaaGreatDoorQ1X
import Derived.WalkSmall
import Derived.Test.YtgcedalggnmooaaGreatDoorAn1X
import Derived.Deep.RegionHeld3
import Derived.Deep.RegionLaw
import Derived.Deep.AppendLies
import Derived.BigRegion
set_option linter.unusedSimpArgs false
set_option linter.unusedVariables false
set_option maxRecDepth 100000
namespace Go.Proofs.YtgcedalggnmooaaGreatDoor
open Go.RowKit
theorem infoPart:(Tryz.prog.info? 181).map (fun i=>(i.zero,i.size,i.bytes))=some (some (.agg #[.int .i64 0,.int .i64 0]),2,16):=by kernel_rfl
theorem tUParts:Tryz.prog.underlying 40=some (.slice 181):=by kernel_rfl
theorem lflat_snoc (p:Nat × Nat):∀ l,lflat (l++[p])=lflat l++[.int .i64 (p.1:Int),.int .i64 (p.2:Int)]
 | []=>rfl
 | q :: r=>by simp only [List.cons_append,lflat,lflat_snoc p r]
theorem cand_rest {rcs:List (Nat × Nat)} {os:List O} {ls:List L} (hgo:Good os ls) {f:Bool} {td goods gate:Nat} {done:List (Nat × Nat)} {rest:List Nat} (hq:queue rcs f td goods gate ls=done.map Prod.fst++rest) {i:Nat} (hi:i<ls.length):cand rcs td goods gate ls (linesId ls done) i↔i ∈ rest:=by
 have hnd:=queue_nodup (rcs:=rcs) f td goods gate ls
 rw [hq] at hnd
 have hdis:=(List.nodup_append.1 hnd).2.2
 constructor
 ·rintro ⟨h1,h2⟩
  have hm:i ∈ queue rcs f td goods gate ls:=queue_mem.2 ⟨hi,h1⟩
  rw [hq] at hm
  rcases List.mem_append.1 hm with hm | hm
  ·obtain ⟨p,hp,rfl⟩:=List.mem_map.1 hm
   exact absurd rfl (h2 ((ls.getD p.1 L0).id,p.2) (List.mem_map_of_mem (f:=fun p=>((ls.getD p.1 L0).id,p.2)) hp))
  ·exact hm
 ·intro hm
  have hmq:i ∈ queue rcs f td goods gate ls:=by rw [hq];exact List.mem_append.2 (Or.inr hm)
  refine ⟨(queue_mem.1 hmq).2,fun p hp e=>?_⟩
  obtain ⟨c,hc,rfl⟩:=List.mem_map.1 hp
  have hcm:c.1 ∈ done.map Prod.fst:=List.mem_map_of_mem hc
  have hcq:c.1 ∈ queue rcs f td goods gate ls:=by rw [hq];exact List.mem_append.2 (Or.inl hcm)
  have:=hgo.ids c.1 i (queue_mem.1 hcq).1 hi e
  exact hdis _ hcm _ hm this
theorem nx_nil {rcs:List (Nat × Nat)} {os:List O} {ls:List L} (hgo:Good os ls) {f:Bool} {td goods gate:Nat} {done:List (Nat × Nat)} (hq:queue rcs f td goods gate ls=done.map Prod.fst++[]) {r:Int} (h:Nx rcs f td goods gate ls (linesId ls done) ls.length r):r=-1:=by
 rcases h with ⟨h,_⟩ | ⟨b,_,hb,hc,_⟩
 ·exact h
 ·exact absurd ((cand_rest hgo hq hb).1 hc) (by simp)
theorem nx_cons {rcs:List (Nat × Nat)} {os:List O} {ls:List L} (hgo:Good os ls) {f:Bool} {td goods gate:Nat} {done:List (Nat × Nat)} {c:Nat} {t:List Nat} (hq:queue rcs f td goods gate ls=done.map Prod.fst++(c :: t)) {r:Int} (h:Nx rcs f td goods gate ls (linesId ls done) ls.length r):r=(c:Int):=by
 have hlt:∀ i ∈ c :: t,i<ls.length:=fun i hi=>(queue_mem.1 (show i ∈ queue rcs f td goods gate ls by rw [hq];exact List.mem_append.2 (Or.inr hi))).1
 have hs:=queue_srt (rcs:=rcs) f td goods gate ls
 rw [hq] at hs
 have hs2:=(List.pairwise_append.1 hs).2.1
 rcases h with ⟨_,h⟩ | ⟨b,hr,hb,hc,hm⟩
 ·exact absurd ((cand_rest hgo hq (hlt c (by simp))).2 (by simp)) (h c (hlt c (by simp)))
 ·have hbr:=(cand_rest hgo hq hb).1 hc
  have:=head_first hgo hs2 hlt hbr (fun i hi=>hm i (hlt i hi) ((cand_rest hgo hq (hlt i hi)).2 hi))
  rw [hr,this]
set_option maxHeartbeats 3200000 in
theorem linesR_any {rcs:List (Nat × Nat)} {w:World} {R:Nat} {v:Value} {td:Nat} {rec:ByteArray} {fs:List Value} {ls:List L} {os:List O} {ro:Ro} (h:RV os rcs ro w R v td rec fs ls) (hgo:Good os ls) (goods count gate way:Nat) (h1:goods≤2147483647) (h2:count≤2147483647) (h3:gate≤2147483647) (h4:way≤3) :
  Calls Tryz.prog 115 #[.pointer (some ⟨R,0,none⟩),.int .i64 (goods:Int),.int .i64 (count:Int),.int .i64 (gate:Int),.int .i64 (way:Int)] w fun e w'=>Below w.heap.size w w'∧∃ lv,e=.returned (.tuple #[lv,.int .i64 (sumQ (linesQ rcs td goods count gate way ls):Int)])∧w'.ownsRow w.heap.size 181 2 lv (linesQ rcs td goods count gate way ls).length (lflat (linesId ls (linesQ rcs td goods count gate way ls))):=by
 obtain ⟨i0,hi,hz0,hz1,hz2⟩:=info_parts infoPart
 obtain ⟨va,vcap,hv,hcells⟩:=h.shape
 have c1:=h.c1
 rw [hv] at c1
 have hR:=blk_lt h.store
 have hroom:=h.room
 have HP:=hide h
 have HCE:=hide hcells
 have HGO:=hide hgo
 have HL:Hid (linesQ rcs td goods count gate way ls=giveQ ls (queue rcs (wayF way) td goods gate ls) count):=rfl
 have HQ30:Hid ((queue rcs (wayF way) td goods gate ls).length≤30):=by
  unfold Hid;rw [(queue_perm (rcs:=rcs) (wayF way) td goods gate ls).length_eq];have:=srvI_len (rcs:=rcs) td goods gate ls ls.length;omega
 have HQM:Hid (∀ c,c ∈ queue rcs (wayF way) td goods gate ls→c<ls.length∧srv (recB rcs ls) td goods gate (ls.getD c L0)=true):=fun c hc=>queue_mem.1 hc
 clear h hv hcells hgo
 go_enter Tryz.func115,Tryz.ntmps115
 go_wp2_with fail
 go_loopw [12,13,14,15] (fun lv ss _ _ wr=>∃ (sum:Nat) (rest:List Nat) (done:List (Nat × Nat)),ss=.int .i64 sum∧sum≤count∧queue rcs (wayF way) td goods gate ls=done.map Prod.fst++rest∧giveQ ls (queue rcs (wayF way) td goods gate ls) count=done++giveQ ls rest (count - sum)∧sumQ done=sum∧wr.ownsRow w.heap.size 181 2 lv done.length (lflat (linesId ls done))∧Below w.heap.size w wr) (fun _ ss _ _ _=>count - (intOf ss).toNat)
 case atStart=>exact ⟨0,queue rcs (wayF way) td goods gate ls,[],rfl,by omega,by simp,by simp,rfl,World.ownsRow_nil _ _ _ _,Below.refl _ _⟩
 case round =>
  obtain ⟨sum,rest,done,rfl,hsc,hq,hgv,hsum,hown,hb⟩:=hrel
  obtain ⟨la,lcap,hlv⟩:=own_shapeS hown
  subst hlv
  have cR:wr.cell? ⟨R,1,none⟩=some (.slice va ls.length vcap):=(hb.cell (by exact hR)).trans c1
  have hdl:done.length+rest.length≤30:=by
   have:=HQ30.out;rw [hq] at this;simpa using this
  by_cases hlt:sum<count
  ·have hlb:∀ p ∈ linesId ls done,p.1≤2147483647:=fun p hp=>by
    obtain ⟨c,hc,rfl⟩:=List.mem_map.1 hp
    have hcq:c.1 ∈ queue rcs (wayF way) td goods gate ls:=by rw [hq];exact List.mem_append.2 (Or.inl (List.mem_map_of_mem hc))
    exact (HP.out.ok _ (mem_getD (HQM.out _ hcq).1)).id
   have hll:(linesId ls done).length=done.length:=by simp [linesId]
   have hown':wr.ownsRow w.heap.size 181 2 (.slice la (linesId ls done).length lcap) (linesId ls done).length (lflat (linesId ls done)):=by rw [hll];exact hown
   have HNX:=hide (next_any (HP.out.below hb) (linesId ls done) (by rw [hll];omega) hlb la lcap w.heap.size hown' goods gate way h1 h3 h4)
   rw [hll] at HNX
   have HQ:=hide hq
   have HGV:=hide hgv
   have HSU:=hide hsum
   have HOW:=hide hown
   have HB:=hide hb
   obtain ⟨dl,HDL⟩:∃ dl,Hid (dl=done.length):=⟨_,rfl⟩
   rw [← HDL.out] at HNX hdl HOW
   rw [show (Value.slice la done.length lcap)=Value.slice la dl lcap by rw [HDL.out]]
   clear hq hgv hsum hown hown' hlb hll
   cases hrest:rest with
   | nil =>
    subst hrest
    go_wp2_with fail
    with_reducible refine (HNX.out).mono ?_
    rintro e w1 ⟨hb1,r,rfl,hnx⟩
    have hr:=nx_nil HGO.out HQ.out hnx
    subst hr
    have HLD:Hid (linesQ rcs td goods count gate way ls=done):=by unfold Hid;rw [HL.out,HGV.out];simp [giveQ]
    clear hnx
    go_wp2_with fail
    go_ret2
    exact ⟨hb.trans (hb1.mono hb.size),_,by rw [HLD.out,HSU.out];rfl,by rw [HLD.out,← HDL.out];exact own_below HOW.out hb1⟩
   | cons c t =>
    subst hrest
    go_wp2_with fail
    with_reducible refine (HNX.out).mono ?_
    rintro e w1 ⟨hb1,r,rfl,hnx⟩
    have hr:=nx_cons HGO.out HQ.out hnx
    subst hr
    have hcq:c ∈ queue rcs (wayF way) td goods gate ls:=by rw [HQ.out];exact List.mem_append.2 (Or.inr (by simp))
    obtain ⟨hc,hsv⟩:=HQM.out c hcq
    have hok:=HP.out.ok _ (mem_getD hc)
    have hfp:0<(ls.getD c L0).free:=by
     unfold srv at hsv
     simp only [Bool.and_eq_true,decide_eq_true_eq] at hsv
     exact hsv.1.2
    obtain ⟨G,hG,hGlt,hcl⟩:=HCE.out (by omega)
    subst hG
    have hb01:=HB.out.trans (hb1.mono HB.out.size)
    have m5:w1.cell? ⟨G,c * 11+5,none⟩=some (.int .i64 ((ls.getD c L0).free:Int)):=(hb01.cell (by exact hGlt)).trans (hcl c hc 5 (by omega))
    have m0:w1.cell? ⟨G,c * 11,none⟩=some (.int .i64 ((ls.getD c L0).id:Int)):=(hb01.cell (by exact hGlt)).trans (hcl c hc 0 (by omega))
    have mR:w1.cell? ⟨R,1,none⟩=some (.slice (some ⟨G,0,none⟩) ls.length vcap):=(hb01.cell (by exact hR)).trans c1
    have ho1:=own_below HOW.out hb1
    have HB01:=hide hb01
    have hws:w.heap.size≤w1.heap.size:=hb01.size
    have hfr:(ls.getD c L0).free≤2147483647:=by have:=hok.sum;omega
    have hidb:=hok.id
    have HQ2:Hid (∀ n,queue rcs (wayF way) td goods gate ls=(done++[(c,n)]).map Prod.fst++t):=fun n=>by rw [HQ.out];simp
    have HG2:Hid (giveQ ls (queue rcs (wayF way) td goods gate ls) count=(done++[(c,min (ls.getD c L0).free (count - sum))])++giveQ ls t (count - sum - min (ls.getD c L0).free (count - sum))):=by
     unfold Hid;rw [HGV.out,giveQ,if_neg (by omega)];simp
    have HS2:Hid (∀ n,sumQ (done++[(c,n)])=sum+n):=fun n=>by rw [sumQ_append,HSU.out];simp [sumQ]
    have HLI:Hid (∀ n,linesId ls (done++[(c,n)])=linesId ls done++[((ls.getD c L0).id,n)]):=fun n=>by unfold linesId;rw [List.map_append];rfl
    have hlc:ls.length≤30:=hroom
    obtain ⟨fr,HFR⟩:∃ fr,Hid (fr=(ls.getD c L0).free):=⟨_,rfl⟩
    rw [← HFR.out] at hfp m5 hfr HG2
    obtain ⟨idc,HIC⟩:∃ idc,Hid (idc=(ls.getD c L0).id):=⟨_,rfl⟩
    rw [← HIC.out] at m0 hidb HLI
    clear hnx hcq hsv hok hcl hb01 hb1 cR HNX
    by_cases hmin:count - sum<fr
    ·have hmb:decide ((count:Int) - (sum:Int)<(fr:Int))=true:=by simp;omega
     have hmn:min fr (count - sum)=(count - sum):=by omega
     rw [hmn] at HG2
     go_wp2_with (at_builtin;refine wpList_append_own _ rfl _ _ 40 rfl w.heap.size 181 i0 (.agg #[.int .i64 0,.int .i64 0]) 2 16 tUParts hi hz0 hz1 hz2 rfl (by decide) _ dl (lflat (linesId ls done)) rfl (ho1.alloc _) ⟨w1.heap.size,0,none⟩ 1 1 [.int .i64 (idc:Int),.int .i64 ((count:Int) - (sum:Int))] rfl rfl ?c1 ?c2 ?c3 ?c4 ?c5 ?_)
     case c1=>exact cell_two_new _ _ _ _
     case c2=>intro u hu;simp at hu;rcases hu with rfl | rfl <;> rfl
     case c3=>unfold maxLen;omega
     case c4=>omega
     case c5=>simp;omega
     intro lv2 w2 hown2 hgrow hnn
     have hown3:w2.ownsRow w.heap.size 181 2 lv2 (done++[(c,(count - sum))]).length (lflat (linesId ls (done++[(c,(count - sum))]))):=by
      rw [HLI.out,lflat_snoc,List.length_append,List.length_singleton,← HDL.out]
      have e:(((count - sum):Nat):Int)=((count:Int) - (sum:Int)):=by omega
      show w2.ownsRow w.heap.size 181 2 lv2 (dl+1) (lflat (linesId ls done)++[.int .i64 (idc:Int),.int .i64 (((count - sum):Nat):Int)])
      rw [e];exact hown2
     have hbb:Below w.heap.size w w2:=(HB01.out.alloc hws _).grown hgrow (by simp;omega) (fun k hk=>(ho1.lt k hk).1)
     have HO3:=hide hown3
     have HBB:=hide hbb
     clear hown2 hown3 hbb hgrow hnn ho1 m0 m5 mR
     go_wp2_with fail
     go_roundw
     case rel=>exact ⟨sum+(count - sum),t,done++[(c,(count - sum))],by first | (congr 1;done) | (congr 1;omega),by omega,HQ2.out _,by rw [show count - (sum+(count - sum))=count - sum - (count - sum) by omega];exact HG2.out,HS2.out _,HO3.out,HBB.out⟩
     case measure=>simp [intOf];omega
    ·have hmb:decide ((count:Int) - (sum:Int)<(fr:Int))=false:=by simp;omega
     have hmn:min fr (count - sum)=fr:=by omega
     rw [hmn] at HG2
     go_wp2_with (at_builtin;refine wpList_append_own _ rfl _ _ 40 rfl w.heap.size 181 i0 (.agg #[.int .i64 0,.int .i64 0]) 2 16 tUParts hi hz0 hz1 hz2 rfl (by decide) _ dl (lflat (linesId ls done)) rfl (ho1.alloc _) ⟨w1.heap.size,0,none⟩ 1 1 [.int .i64 (idc:Int),.int .i64 (fr:Int)] rfl rfl ?c1 ?c2 ?c3 ?c4 ?c5 ?_)
     case c1=>exact cell_two_new _ _ _ _
     case c2=>intro u hu;simp at hu;rcases hu with rfl | rfl <;> rfl
     case c3=>unfold maxLen;omega
     case c4=>omega
     case c5=>simp;omega
     intro lv2 w2 hown2 hgrow hnn
     have hown3:w2.ownsRow w.heap.size 181 2 lv2 (done++[(c,fr)]).length (lflat (linesId ls (done++[(c,fr)]))):=by
      rw [HLI.out,lflat_snoc,List.length_append,List.length_singleton,← HDL.out]
      have e:((fr:Nat):Int)=(fr:Int):=by omega
      show w2.ownsRow w.heap.size 181 2 lv2 (dl+1) (lflat (linesId ls done)++[.int .i64 (idc:Int),.int .i64 ((fr:Nat):Int)])
      rw [e];exact hown2
     have hbb:Below w.heap.size w w2:=(HB01.out.alloc hws _).grown hgrow (by simp;omega) (fun k hk=>(ho1.lt k hk).1)
     have HO3:=hide hown3
     have HBB:=hide hbb
     clear hown2 hown3 hbb hgrow hnn ho1 m0 m5 mR
     go_wp2_with fail
     go_roundw
     case rel=>exact ⟨sum+fr,t,done++[(c,fr)],by first | (congr 1;done) | (congr 1;omega),by omega,HQ2.out _,by rw [show count - (sum+fr)=count - sum - fr by omega];exact HG2.out,HS2.out _,HO3.out,HBB.out⟩
     case measure=>simp [intOf];omega
  ·obtain rfl:sum=count:=by omega
   rw [Nat.sub_self,giveQ_zero,List.append_nil] at hgv
   have HLD:Hid (linesQ rcs td goods sum gate way ls=done):=by unfold Hid;rw [HL.out,hgv]
   have HSU:=hide hsum
   have HOW:=hide hown
   clear hq hgv hsum hown hlt
   go_wp2_with fail
   go_ret2
   exact ⟨hb,_,by rw [HLD.out,HSU.out];rfl,by rw [HLD.out];exact HOW.out⟩
end Go.Proofs.YtgcedalggnmooaaGreatDoor
namespace Go.Proofs.YtgcedalggnmooaaGreatDoor
open Go.RowKit
set_option maxHeartbeats 1600000 in
theorem askR_early {rcs:List (Nat × Nat)} {w:World} {R:Nat} {v:Value} {td:Nat} {rec:ByteArray} {fs:List Value} {ls:List L} {os:List O} {ro:Ro} (h:RV os rcs ro w R v td rec fs ls) (hgo:Good os ls) (gn cap:Nat) (id goods count gate way:Nat) (hn:NS w gn [id,goods,count,gate,way]) (h1:id≤2147483647) (hc:os.any (fun o=>o.id == id)=true∨10≤os.length) :
  Calls Tryz.prog 69 #[.pointer (some ⟨R,0,none⟩),.slice (some ⟨gn,0,none⟩) 5 cap] w fun e w'=>e=.returned (.tuple #[.slice none 0 0,.int .i64 (askC rcs os td ls id goods count gate way:Int)])∧w'=w:=by
 have n0:w.cell? ⟨gn,0,none⟩=some (.int .i64 (id:Int)):=hn.2 0 (by simp)
 have HO:=hide (orderR_any h hgo.olen hgo.oid id h1)
 obtain ⟨oa,ocap,hov,_⟩:=h.ord.shape
 have c2:=h.c2
 rw [hov] at c2
 have hol:=hgo.olen
 cases hany:os.any (fun o=>o.id == id) with
 | true =>
  have HE:Hid (askC rcs os td ls id goods count gate way=5):=by unfold Hid askC;rw [hany];rfl
  have hx:=oix_any.2 hany
  have HV:Hid (orderV os id=(oix id os:Int)):=by unfold Hid orderV;rw [if_pos hx]
  rw [HV.out] at HO
  generalize oix id os=k at *
  clear h hgo hn hany hc hov
  go_enter Tryz.func69,Tryz.ntmps69
  go_wp2_with (go_at_call 114;with_reducible refine (HO.out).mono ?_;rintro e w1 ⟨rfl,rfl⟩)
  go_ret2
  exact ⟨by rw [HE.out];rfl,rfl⟩
 | false =>
  have h10:10≤os.length:=hc.resolve_left (by rw [hany];simp)
  have HE:Hid (askC rcs os td ls id goods count gate way=6):=by unfold Hid askC;rw [hany,if_neg (by simp),if_pos h10]
  have hx:¬ oix id os<os.length:=fun q=>by rw [oix_any.1 q] at hany;cases hany
  have HV:Hid (orderV os id=-1):=by unfold Hid orderV;rw [if_neg hx]
  rw [HV.out] at HO
  generalize os.length=n at *
  clear h hgo hn hany hc hov hx
  go_enter Tryz.func69,Tryz.ntmps69
  go_wp2_with (go_at_call 114;with_reducible refine (HO.out).mono ?_;rintro e w1 ⟨rfl,rfl⟩)
  go_ret2
  exact ⟨by rw [HE.out];rfl,rfl⟩
set_option maxHeartbeats 1600000 in
theorem askR_short {rcs:List (Nat × Nat)} {w:World} {R:Nat} {v:Value} {td:Nat} {rec:ByteArray} {fs:List Value} {ls:List L} {os:List O} {ro:Ro} (h:RV os rcs ro w R v td rec fs ls) (hgo:Good os ls) (gn cap:Nat) (id goods count gate way:Nat) (hn:NS w gn [id,goods,count,gate,way]) (h1:id≤2147483647) (h2:goods≤2147483647) (h3:count≤2147483647) (h4:gate≤2147483647) (h5:way≤3)
  (hany:os.any (fun o=>o.id == id)=false) (h10:¬ 10≤os.length) (hsh:sumQ (linesQ rcs td goods count gate way ls)=0∨(sumQ (linesQ rcs td goods count gate way ls)<count∧wayW way=true)) :
  Calls Tryz.prog 69 #[.pointer (some ⟨R,0,none⟩),.slice (some ⟨gn,0,none⟩) 5 cap] w fun e w'=>e=.returned (.tuple #[.slice none 0 0,.int .i64 7])∧Below w.heap.size w w':=by
 have n0:w.cell? ⟨gn,0,none⟩=some (.int .i64 (id:Int)):=hn.2 0 (by simp)
 have n1:w.cell? ⟨gn,1,none⟩=some (.int .i64 (goods:Int)):=hn.2 1 (by simp)
 have n2:w.cell? ⟨gn,2,none⟩=some (.int .i64 (count:Int)):=hn.2 2 (by simp)
 have n3:w.cell? ⟨gn,3,none⟩=some (.int .i64 (gate:Int)):=hn.2 3 (by simp)
 have n4:w.cell? ⟨gn,4,none⟩=some (.int .i64 (way:Int)):=hn.2 4 (by simp)
 obtain ⟨cs,hcs⟩:=hn.1
 have hgn:=blk_lt hcs
 have HO:=hide (orderR_any h hgo.olen hgo.oid id h1)
 obtain ⟨oa,ocap,hov,_⟩:=h.ord.shape
 have c2:=h.c2
 rw [hov] at c2
 have hx:¬ oix id os<os.length:=fun q=>by rw [oix_any.1 q] at hany;cases hany
 have HV:Hid (orderV os id=-1):=by unfold Hid orderV;rw [if_neg hx]
 rw [HV.out] at HO
 have HL:=hide (linesR_any (h.below (drewB w)) hgo goods count gate way h2 h3 h4 h5)
 have HF:=hide (linesQ_facts (rcs:=rcs) td goods count gate way ls h.room)
 have hsm:sumQ (linesQ rcs td goods count gate way ls)≤2147483647:=Nat.le_trans HF.out.2.2.2.2 h3
 have h1b:=and1e h5
 have hn10:os.length<10:=by omega
 generalize os.length=n at *
 generalize linesQ rcs td goods count gate way ls=q at *
 generalize sumQ q=sq at *
 clear h hgo hn hany hov hx hcs HV h10
 by_cases hz:sq=0
 ·have hzb:((sq:Int) == 0)=true:=by rw [hz];rfl
  clear hsh hz
  go_enter Tryz.func69,Tryz.ntmps69
  go_wp2_with (go_at_call 114;with_reducible refine (HO.out).mono ?_;rintro e w1 ⟨rfl,rfl⟩)
  go_region_held3 (fun w'=>w'.cell? ⟨gn,1,none⟩=some (.int .i64 (goods:Int))∧w'.cell? ⟨gn,2,none⟩=some (.int .i64 (count:Int))∧w'.cell? ⟨gn,3,none⟩=some (.int .i64 (gate:Int))∧w'.cell? ⟨gn,4,none⟩=some (.int .i64 (way:Int))) (go_keep)
   (first
    | (go_at_call 115;refine (HL.out).mono ?_;rintro e w2 ⟨hb2,lv,rfl,ho2⟩;have m1:=(hb2.cell (p:=⟨gn,1,none⟩) (by exact hgn)).trans n1;have m2:=(hb2.cell (p:=⟨gn,2,none⟩) (by exact hgn)).trans n2;have m3:=(hb2.cell (p:=⟨gn,3,none⟩) (by exact hgn)).trans n3;have m4:=(hb2.cell (p:=⟨gn,4,none⟩) (by exact hgn)).trans n4))
  clear ho2 n0 n1 n2 n3 n4
  go_wp2_with fail
  go_ret2
  exact ⟨rfl,(drewB _).trans (hb2.mono (drewB _).size)⟩
 ·have hzb:((sq:Int) == 0)=false:=by rw [beq_eq_false_iff_ne];omega
  obtain ⟨hlt,hw⟩:=hsh.resolve_left hz
  rw [hw] at h1b
  have hltb:decide ((sq:Int)<(count:Int))=true:=by simp;omega
  clear hsh hz hw
  go_enter Tryz.func69,Tryz.ntmps69
  go_wp2_with (go_at_call 114;with_reducible refine (HO.out).mono ?_;rintro e w1 ⟨rfl,rfl⟩)
  go_region_held3 (fun w'=>w'.cell? ⟨gn,1,none⟩=some (.int .i64 (goods:Int))∧w'.cell? ⟨gn,2,none⟩=some (.int .i64 (count:Int))∧w'.cell? ⟨gn,3,none⟩=some (.int .i64 (gate:Int))∧w'.cell? ⟨gn,4,none⟩=some (.int .i64 (way:Int))) (go_keep)
   (first
    | (go_at_call 115;refine (HL.out).mono ?_;rintro e w2 ⟨hb2,lv,rfl,ho2⟩;have m1:=(hb2.cell (p:=⟨gn,1,none⟩) (by exact hgn)).trans n1;have m2:=(hb2.cell (p:=⟨gn,2,none⟩) (by exact hgn)).trans n2;have m3:=(hb2.cell (p:=⟨gn,3,none⟩) (by exact hgn)).trans n3;have m4:=(hb2.cell (p:=⟨gn,4,none⟩) (by exact hgn)).trans n4))
  clear ho2 n0 n1 n2 n3 n4
  go_wp2_with fail
  go_ret2
  exact ⟨rfl,(drewB _).trans (hb2.mono (drewB _).size)⟩
end Go.Proofs.YtgcedalggnmooaaGreatDoor
namespace Go.Proofs.YtgcedalggnmooaaGreatDoor
open Go.RowKit
theorem info3':(Tryz.prog.info? 3).map (fun i=>(i.zero,i.size,i.bytes))=some (some (.int .i64 0),1,8):=by kernel_rfl
theorem tUInts:Tryz.prog.underlying 55=some (.slice 3):=by kernel_rfl
theorem infoOrd:(Tryz.prog.info? 132).map (fun i=>(i.zero,i.size,i.bytes))=some (some (.agg #[.int .i64 0,.int .i64 0,.slice none 0 0]),3,40):=by kernel_rfl
theorem tUOrds:Tryz.prog.underlying 39=some (.slice 132):=by kernel_rfl
theorem idx_uniq {ls:List L} (hid:∀ i j,i<ls.length→j<ls.length→(ls.getD i L0).id=(ls.getD j L0).id→i=j) {c:Nat} (hc:c<ls.length):idx (ls.getD c L0).id ls=c:=by
 have hlt:idx (ls.getD c L0).id ls<ls.length:=by
  apply Decidable.byContradiction
  intro h
  exact idx_fresh h c hc rfl
 exact hid _ c hlt hc (idx_id hlt)
def twoW (w:World) (G i j k:Nat) (x y:Int):World:=((w.setCell ⟨G,i * 11+j,none⟩ (.int .i64 x)).setCell ⟨G,i * 11+k,none⟩ (.int .i64 y)).drew.drew
theorem twoW_other {w:World} {G i j k q:Nat} {x y:Int} (hq:q≠G):(twoW w G i j k x y).heap[q]?=w.heap[q]?:=by
 show ((w.setCell ⟨G,i * 11+j,none⟩ (.int .i64 x)).setCell ⟨G,i * 11+k,none⟩ (.int .i64 y)).heap[q]?=_
 rw [Below.heap_setCell _ _ _ _ hq,Below.heap_setCell _ _ _ _ hq]
theorem twoW_kp {Z:Nat→Prop} {w:World} {G i j k:Nat} {x y:Int} (hz:Z G):Kp Z w (twoW w G i j k x y):=by
 unfold twoW
 exact (((Kp.refl _ w).setCell (p:=⟨G,i * 11+j,none⟩) (Or.inl hz) _).setCell (p:=⟨G,i * 11+k,none⟩) (Or.inl hz) _).after ((Below.refl _ _).drew.drew)
theorem twoW_size (w:World) (G i j k:Nat) (x y:Int):(twoW w G i j k x y).heap.size=w.heap.size:=by simp [twoW,World.drew,World.setCell]
theorem RV.two {rcs:List (Nat × Nat)} {w:World} {R:Nat} {v:Value} {td:Nat} {rec:ByteArray} {fs:List Value} {ls:List L} {os:List O} {ro:Ro} (h:RV os rcs ro w R v td rec fs ls) {G cap:Nat} (hv:v=.slice (some ⟨G,0,none⟩) ls.length cap) {i:Nat} (hi:i<ls.length) {l':L} (hl:L.Ok l') (hid':l'.id=(ls.getD i L0).id) (hpr':l'.par=(ls.getD i L0).par) (x y:Int) (j k:Nat) (hj:j<11) (hk:k<11)
  (hc:∀ f,((refCells (ls.getD i L0) f).set j (.int .i64 x)).set k (.int .i64 y)=refCells l' f):RV os rcs ro (twoW w G i j k x y) R v td rec fs (ls.set i l') :=
 (h.lotset hv hi hl hid' hpr' (.int .i64 x) (.int .i64 y) j k hj hk hc).below ((Below.refl _ _).drew.drew)
theorem own_two {w:World} {base e size n:Nat} {u:Value} {xs:List Value} (h:w.ownsRow base e size u n xs) {G i j k:Nat} {x y:Int} (hn:u.ownBlock≠some G):(twoW w G i j k x y).ownsRow base e size u n xs :=
 own_congr h (fun q hq=>twoW_other (fun e=>hn (by rw [← e];exact hq)))
theorem oflat_snoc (o:O) (f:Value):∀ (os:List O) (fs:List Value),fs.length=os.length→oflat (os++[o]) (fs++[f])=oflat os fs++[.int .i64 (o.id:Int),.int .i64 (o.goods:Int),f]
 | [],[],_=>rfl
 | [],_ :: _,h=>by simp at h
 | _ :: _,[],h=>by simp at h
 | a :: os,b :: fs,h=>by
  have:=oflat_snoc o f os fs (by simpa using h)
  simp only [List.cons_append,oflat,this]
theorem RV.ordered {rcs:List (Nat × Nat)} {w w1 w2:World} {R:Nat} {v:Value} {td:Nat} {rec:ByteArray} {fs:List Value} {ls:List L} {os:List O} {ro:Ro} (h:RV os rcs ro w R v td rec fs ls) {o:O} {lv ov':Value} (hw1:∀ k,k<w.heap.size→w1.heap[k]?=w.heap[k]?) (hsz:w.heap.size≤w1.heap.size) (hg:w1.grownBy w2 ro.ov.ownBlock) (hown:w2.ownsRow 0 132 3 ov' (os.length+1) (oflat os ro.lvs++[.int .i64 (o.id:Int),.int .i64 (o.goods:Int),lv])) (hlv:w.ownsRow 0 181 2 lv o.lines.length (lflat o.lines)) (hlap:∀ g,lv.ownBlock=some g→ro.rv.ownBlock≠some g) :
  RV (os++[o]) rcs { ro with ov:=ov',lvs:=ro.lvs++[lv] } (w2.setCell ⟨R,2,none⟩ ov') R v td rec fs ls:=by
 have hob:∀ (b:Nat) (cs:Array Value) (t:TypeId),w.heap[b]?=some (.cells cs t (0,0))→t≠132→w2.heap[b]?=w.heap[b]?:=fun b cs t hb ht=>(hg.block b (by have:=blk_lt hb;omega) (fun e=>by
  obtain ⟨cs',hcs⟩:=own_ty h.ord.row e.symm
  exact ty_ne hb hcs ht rfl)).trans (hw1 b (blk_lt hb))
 have hR2:=(hob R _ _ h.store (by decide)).trans h.store
 have hall:∀ (b:Nat) (cs:Array Value) (t:TypeId),w.heap[b]?=some (.cells cs t (0,0))→t≠132→t≠42→(w2.setCell ⟨R,2,none⟩ ov').heap[b]?=w.heap[b]?:=fun b cs t hb ht ht2=>by
  rw [Below.heap_setCell _ _ _ _ (ty_ne hb h.store ht2)];exact hob b cs t hb ht
 refine ⟨?_,own_congr h.row (fun g hg'=>by obtain ⟨cs,hcs⟩:=own_ty h.row hg';exact hall _ _ _ hcs (by decide) (by decide)),h.flen,h.fro,⟨?_,by simp [h.ord.llen],fun i hi=>?_,?_⟩,h.today,h.ok,h.room,h.fam,h.rc⟩
 ·have:=heap_setCell_same w2 R 2 _ 42 ov' hR2
  simpa using this
 ·have hk:=hown.kept (grownBy_setCell w2 ⟨R,2,none⟩ ov') (Or.inr (fun e=>by
   obtain ⟨cs,hc⟩:=own_ty hown (g:=R) e
   exact ty_ne hR2 hc (by decide) rfl))
  rw [oflat_snoc o lv os ro.lvs h.ord.llen,List.length_append];exact hk
 ·rw [List.length_append,List.length_singleton] at hi
  by_cases hlt:i<os.length
  ·have e1:(os++[o]).getD i O0=os.getD i O0:=by simp [List.getD_eq_getElem?_getD,List.getElem?_append_left hlt]
   have e2:(ro.lvs++[lv]).getD i default=ro.lvs.getD i default:=by simp [List.getD_eq_getElem?_getD,List.getElem?_append_left (show i<ro.lvs.length by rw [h.ord.llen];exact hlt)]
   show (w2.setCell ⟨R,2,none⟩ ov').ownsRow 0 181 2 ((ro.lvs++[lv]).getD i default) _ _
   rw [e1,e2]
   exact own_congr (h.ord.lines i hlt) (fun g hg'=>by obtain ⟨cs,hcs⟩:=own_ty (h.ord.lines i hlt) hg';exact hall _ _ _ hcs (by decide) (by decide))
  ·obtain rfl:i=os.length:=by omega
   have e1:(os++[o]).getD os.length O0=o:=by simp [List.getD_eq_getElem?_getD]
   have e2:(ro.lvs++[lv]).getD os.length default=lv:=by rw [← h.ord.llen];simp [List.getD_eq_getElem?_getD]
   show (w2.setCell ⟨R,2,none⟩ ov').ownsRow 0 181 2 ((ro.lvs++[lv]).getD os.length default) _ _
   rw [e1,e2]
   exact own_congr hlv (fun g hg'=>by obtain ⟨cs,hcs⟩:=own_ty hlv hg';exact hall _ _ _ hcs (by decide) (by decide))
 ·have hf:=h.ord.fd.congr (w':=w2.setCell ⟨R,2,none⟩ ov') (fun g hg'=>by obtain ⟨cs,hcs⟩:=h.ord.fd.ty hg';exact hall _ _ _ hcs (by decide) (by decide))
  refine ⟨hf.rrow,hf.flen,hf.frm,fun g hg'=>⟨?_,(hf.apart g hg').2⟩⟩
  rintro ⟨i,hi,hb⟩
  have hi':i<(ro.lvs++[lv]).length:=hi
  have hb':((ro.lvs++[lv]).getD i default).ownBlock=some g:=hb
  rw [List.length_append,List.length_singleton] at hi'
  by_cases hlt:i<ro.lvs.length
  ·refine (hf.apart g hg').1 ⟨i,hlt,?_⟩
   rw [← hb'];simp [List.getD_eq_getElem?_getD,List.getElem?_append_left hlt]
  ·obtain rfl:i=ro.lvs.length:=by omega
   refine hlap g ?_ hg'
   rw [← hb'];simp [List.getD_eq_getElem?_getD]
end Go.Proofs.YtgcedalggnmooaaGreatDoor
namespace Go.Proofs.YtgcedalggnmooaaGreatDoor
open Go.RowKit
structure AskI (w:World) (os:List O) (rcs:List (Nat × Nat)) (ro:Ro) (R:Nat) (v:Value) (td:Nat) (rec:ByteArray) (fs:List Value) (ls:List L) (q:List (Nat × Nat)) (lv:Value) (wr:World) (k:Nat) (ov:Value):Prop where
 rv:RV os rcs ro wr R v td rec fs (holdS ls (q.take k))
 row:wr.ownsRow w.heap.size 181 2 lv q.length (lflat (linesId ls q))
 out:wr.ownsRow w.heap.size 3 1 ov (1+k * 2) (I (q.length :: toldL ls (q.take k)))
 kp:Kp (fun b=>v.ownBlock=some b) w wr
 sz:w.heap.size≤wr.heap.size
theorem own_ne_lot {w:World} {base e size n:Nat} {u:Value} {xs:List Value} (h:w.ownsRow base e size u n xs) {G:Nat} {cs:Array Value} {t:TypeId} (hG:w.heap[G]?=some (.cells cs t (0,0))) (hne:e≠t):u.ownBlock≠some G:=fun he=>by
 obtain ⟨cs',hc⟩:=own_ty h he
 exact ty_ne hc hG hne rfl
theorem ask_fin {rcs:List (Nat × Nat)} {w wr w5:World} {R:Nat} {v:Value} {td:Nat} {rec:ByteArray} {fs:List Value} {ls:List L} {os:List O} {ro:Ro} {q:List (Nat × Nat)} {id goods g oc g2 cap2:Nat} {la:Option Addr} {lcap:Nat} {o:Obj} (hrv:RV os rcs ro wr R v td rec fs (holdS ls q)) (hout:wr.ownsRow w.heap.size 3 1 (.slice (some ⟨g,0,none⟩) (1+q.length * 2) oc) (1+q.length * 2) (I (q.length :: toldL ls q))) (hrp:wr.ownsRow w.heap.size 181 2 (.slice la q.length lcap) q.length (lflat (linesId ls q)))
  (hk:Kp (fun b=>v.ownBlock=some b) w wr) (hbl:Below wr.heap.size wr (wr.alloc o).drew) (hgrow:(wr.alloc o).drew.grownBy w5 ro.ov.ownBlock) (hown5:w5.ownsRow 0 132 3 (.slice (some ⟨g2,0,none⟩) (os.length+1) cap2) (os.length+1) (oflat os ro.lvs++[.int .i64 (id:Int),.int .i64 (goods:Int),.slice la q.length lcap])) (hat:ro.ov.ownBlock=some g2∨g2=wr.heap.size+1) (hro:∀ b,FB ro b→b<w.heap.size) :
  Kp (fun b=>b=R∨v.ownBlock=some b∨ro.ov.ownBlock=some b) w (w5.setCell ⟨R,2,none⟩ (.slice (some ⟨g2,0,none⟩) (os.length+1) cap2)) ∧
   (∃ ro',RV (os++[⟨id,goods,linesId ls q⟩]) rcs ro' (w5.setCell ⟨R,2,none⟩ (.slice (some ⟨g2,0,none⟩) (os.length+1) cap2)) R v td rec fs (holdS ls q)∧∀ b,OB ro' b→OB ro b∨w.heap.size≤b)∧Rw (w5.setCell ⟨R,2,none⟩ (.slice (some ⟨g2,0,none⟩) (os.length+1) cap2)) g (toldQ ls q):=by
 have hll:(linesId ls q).length=q.length:=by simp [linesId]
 have hsz:=hk.size
 refine ⟨?_,⟨_,hrv.ordered (o:=⟨id,goods,linesId ls q⟩) (lv:=.slice la q.length lcap) (fun k hk=>hbl.block k hk) hbl.size hgrow hown5 (by show wr.ownsRow 0 181 2 (.slice la q.length lcap) (linesId ls q).length (lflat (linesId ls q));rw [hll];exact own_base hrp) (fun b hb e=>by have:=(hrp.lt b hb).1;have:=hro b (Or.inl e);omega),fun b hb=>?_⟩,?_⟩
 ·refine Kp.setCell ?_ (Or.inl (Or.inl rfl)) _
  refine ((hk.mono (fun b hb=>Or.inr (Or.inl hb))).after hbl).trans ⟨hgrow.os,hgrow.tape,hgrow.output,hgrow.size,fun b hb hz=>hgrow.block b hb (fun e=>hz (Or.inl (Or.inr (Or.inr e.symm))))⟩
 ·rcases hb with hb | ⟨i,hi,hb⟩ | hb
  ·have hbg:b=g2:=by
    have:(some g2:Option Nat)=some b:=hb
    exact (Option.some.inj this).symm
   subst hbg
   rcases hat with h | h
   ·exact Or.inl (Or.inl h)
   ·right;omega
  ·have hi':i<(ro.lvs++[Value.slice la q.length lcap]).length:=hi
   rw [List.length_append,List.length_singleton] at hi'
   by_cases hlt:i<ro.lvs.length
   ·refine Or.inl (Or.inr (Or.inl ⟨i,hlt,?_⟩))
    have e2:(ro.lvs++[Value.slice la q.length lcap]).getD i default=ro.lvs.getD i default:=by simp [List.getD_eq_getElem?_getD,List.getElem?_append_left hlt]
    rw [← e2];exact hb
   ·obtain rfl:i=ro.lvs.length:=by omega
    right
    have e2:(ro.lvs++[Value.slice la q.length lcap]).getD ro.lvs.length default=Value.slice la q.length lcap:=by simp [List.getD_eq_getElem?_getD]
    have hb':((ro.lvs++[Value.slice la q.length lcap]).getD ro.lvs.length default).ownBlock=some b:=hb
    rw [e2] at hb'
    exact (hrp.lt b hb').1
  ·exact Or.inl (Or.inr (Or.inr hb))
 ·have htl:(toldQ ls q).length=1+q.length * 2:=by simp [toldQ,toldL_len];omega
  obtain ⟨csg,hcsg⟩:=own_ty hout (g:=g) rfl
  have hgR:g≠R:=ty_ne hcsg hrv.store (by decide)
  have hblk:(w5.setCell ⟨R,2,none⟩ (.slice (some ⟨g2,0,none⟩) (os.length+1) cap2)).heap[g]?=wr.heap[g]?:=by
   rw [Below.heap_setCell _ _ _ _ hgR,hgrow.block g (Nat.lt_of_lt_of_le (blk_lt hcsg) hbl.size) (fun e=>by
    obtain ⟨cs',hc'⟩:=own_ty hrv.ord.row e.symm
    exact ty_ne hcsg hc' (by decide) rfl),hbl.block g (blk_lt hcsg)]
  refine ⟨?_,fun j hj=>?_⟩
  ·exact blk_lt (hblk.trans hcsg)
  ·rw [World.cell?_of_block (a:=⟨g,j,none⟩) hblk,hout.cellAt j (by omega)]
   show (I (toldQ ls q))[j]?=_
   simp [I,List.getD_eq_getElem?_getD,hj]
theorem RV.typed {rcs:List (Nat × Nat)} {w w':World} {R:Nat} {v:Value} {td:Nat} {rec:ByteArray} {fs:List Value} {ls:List L} {os:List O} {ro:Ro} (h:RV os rcs ro w R v td rec fs ls) (hc:∀ (b:Nat) (cs:Array Value) (t:TypeId),w.heap[b]?=some (.cells cs t (0,0))→t≠3→w'.heap[b]?=w.heap[b]?):RV os rcs ro w' R v td rec fs ls := {
 store:=(hc _ _ _ h.store (by decide)).trans h.store
 row:=own_congr h.row (fun g hg=>by obtain ⟨cs,hcs⟩:=own_ty h.row hg;exact hc _ _ _ hcs (by decide))
 flen:=h.flen
 fro:=h.fro
 ord:=h.ord.congr (fun g hg=>by
  obtain ⟨cs,t,hcs,ht⟩:=h.ord.ty hg
  refine hc _ _ _ hcs ?_
  rcases ht with rfl | rfl <;> decide)
 today:=h.today
 ok:=h.ok
 room:=h.room
 fam:=h.fam
 rc:=h.rc }
end Go.Proofs.YtgcedalggnmooaaGreatDoor
