import Derived.Test.YtgcedalggnmooaaGreatDoorQ4X
set_option linter.unusedSimpArgs false
set_option linter.unusedVariables false
set_option maxRecDepth 100000
namespace Go.Proofs.YtgcedalggnmooaaGreatDoor
open Go.RowKit
set_option maxHeartbeats 6400000 in
theorem askR_ok1 {rcs:List (Nat × Nat)} {w:World} {R:Nat} {v:Value} {td:Nat} {rec:ByteArray} {fs:List Value} {ls:List L} {os:List O} {ro:Ro} (h:RV os rcs ro w R v td rec fs ls) (hgo:Good os ls) (gn cap:Nat) (id goods count gate way:Nat) (hn:NS w gn [id,goods,count,gate,way]) (h1:id≤2147483647) (h2:goods≤2147483647) (h3:count≤2147483647) (h4:gate≤2147483647) (h5:way≤3)
  (hany:os.any (fun o=>o.id == id)=false) (h10:¬ 10≤os.length) (hl:sumQ (linesQ rcs td goods count gate way ls)<count) (hsh:¬ (sumQ (linesQ rcs td goods count gate way ls)=0∨(sumQ (linesQ rcs td goods count gate way ls)<count∧wayW way=true))) :
  Calls Tryz.prog 69 #[.pointer (some ⟨R,0,none⟩),.slice (some ⟨gn,0,none⟩) 5 cap] w fun e w'=>Kp (fun b=>b=R∨v.ownBlock=some b∨ro.ov.ownBlock=some b) w w' ∧
   (∃ ro',RV (os++[⟨id,goods,linesId ls (linesQ rcs td goods count gate way ls)⟩]) rcs ro' w' R v td rec fs (holdS ls (linesQ rcs td goods count gate way ls))∧∀ b,OB ro' b→OB ro b∨w.heap.size≤b) ∧
   ∃ g c,e=.returned (.tuple #[.slice (some ⟨g,0,none⟩) (toldQ ls (linesQ rcs td goods count gate way ls)).length c,.int .i64 0])∧Rw w' g (toldQ ls (linesQ rcs td goods count gate way ls)):=by
 obtain ⟨i3,hi3,hy0,hy1,hy2⟩:=info_parts info3'
 obtain ⟨io,hio,ho0,ho1,ho2⟩:=info_parts infoOrd
 have n0:w.cell? ⟨gn,0,none⟩=some (.int .i64 (id:Int)):=hn.2 0 (by simp)
 have n1:w.cell? ⟨gn,1,none⟩=some (.int .i64 (goods:Int)):=hn.2 1 (by simp)
 have n2:w.cell? ⟨gn,2,none⟩=some (.int .i64 (count:Int)):=hn.2 2 (by simp)
 have n3:w.cell? ⟨gn,3,none⟩=some (.int .i64 (gate:Int)):=hn.2 3 (by simp)
 have n4:w.cell? ⟨gn,4,none⟩=some (.int .i64 (way:Int)):=hn.2 4 (by simp)
 obtain ⟨cs,hcs⟩:=hn.1
 have hgn:=blk_lt hcs
 have HO:=hide (orderR_any h hgo.olen hgo.oid id h1)
 obtain ⟨oa,ocap,hov,_⟩:=h.ord.shape
 have c2:=h.c2
 rw [hov] at c2
 have hx:¬ oix id os<os.length:=fun q=>by rw [oix_any.1 q] at hany;cases hany
 have HV:Hid (orderV os id=-1):=by unfold Hid orderV;rw [if_neg hx]
 rw [HV.out] at HO
 have HL:=hide (linesR_any (h.below (drewB w)) hgo goods count gate way h2 h3 h4 h5)
 have HF:=hide (linesQ_facts (rcs:=rcs) td goods count gate way ls h.room)
 have hsm:sumQ (linesQ rcs td goods count gate way ls)≤2147483647:=Nat.le_trans HF.out.2.2.2.2 h3
 have h1b:=and1e h5
 have hn10:os.length<10:=by omega
 have HCS:=hide hcs
 have HP:=hide h
 have HIDS:=hide hgo.ids
 have HOV:=hide hov
 have hroom:=h.room
 have hqpos:0<(linesQ rcs td goods count gate way ls).length:=by
  cases hq:linesQ rcs td goods count gate way ls with
  | nil=>rw [hq] at hsh;exact absurd (Or.inl rfl) hsh
  | cons p r=>simp
 have hlspos:0<ls.length:=by
  cases hq:linesQ rcs td goods count gate way ls with
  | nil=>rw [hq] at hqpos;simp at hqpos
  | cons p r=>have:=HF.out.2.2.1 p (by rw [hq];simp);omega
 obtain ⟨va,vcap,hv,hvc⟩:=h.shape
 obtain ⟨G,hG,hGlt,_⟩:=hvc hlspos
 subst hG
 have HVV:=hide hv
 have hrowv:=h.row
 rw [hv] at hrowv
 obtain ⟨csG,hcsG⟩:=own_ty hrowv rfl
 have HCG:=hide hcsG
 obtain ⟨on,HON⟩:∃ on,Hid (on=os.length):=⟨_,rfl⟩
 rw [← HON.out] at c2 hn10
 have hcond:¬ (sumQ (linesQ rcs td goods count gate way ls)<count)∨wayW way=false:=by
  by_cases hl:sumQ (linesQ rcs td goods count gate way ls)<count
  ·right;cases hw:wayW way with
   | false=>rfl
   | true=>exact absurd (Or.inr ⟨hl,hw⟩) hsh
  ·exact Or.inl hl
 have hzb:((sumQ (linesQ rcs td goods count gate way ls):Int) == 0)=false:=by
  rw [beq_eq_false_iff_ne];intro e;exact hsh (Or.inl (Int.natCast_eq_zero.1 e))
 generalize linesQ rcs td goods count gate way ls=q at *
 obtain ⟨sq,HSQ⟩:∃ sq,Hid (sq=sumQ q):=⟨_,rfl⟩
 rw [← HSQ.out] at hsm hcond hzb HL hl
 clear h hgo hn hany hov hx hcs HV h10 hsh hv hvc hrowv hcsG
 go_enter Tryz.func69,Tryz.ntmps69
 go_wp2_with (go_at_call 114;with_reducible refine (HO.out).mono ?_;rintro e w1 ⟨rfl,hw1⟩;have hw2:=hw1.symm;subst hw2)
 go_region_held3 (fun w'=>w'.cell? ⟨gn,1,none⟩=some (.int .i64 (goods:Int))∧w'.cell? ⟨gn,2,none⟩=some (.int .i64 (count:Int))∧w'.cell? ⟨gn,3,none⟩=some (.int .i64 (gate:Int))∧w'.cell? ⟨gn,4,none⟩=some (.int .i64 (way:Int))) (go_keep)
  (first
   | (go_at_call 115;refine (HL.out).mono ?_;rintro e w2 ⟨hb2,lv,rfl,ho2⟩;have m1:=(hb2.cell (p:=⟨gn,1,none⟩) (by exact hgn)).trans n1;have m2:=(hb2.cell (p:=⟨gn,2,none⟩) (by exact hgn)).trans n2;have m3:=(hb2.cell (p:=⟨gn,3,none⟩) (by exact hgn)).trans n3;have m4:=(hb2.cell (p:=⟨gn,4,none⟩) (by exact hgn)).trans n4))
 obtain ⟨la,lcap,hlv⟩:=own_shapeS ho2
 subst hlv
 have hbw2:Below w.heap.size w w2:=(drewB w).trans (hb2.mono (drewB w).size)
 have HINI:Hid (AskI w os rcs ro R v td rec fs ls q (.slice la q.length lcap) (w2.alloc (.cells #[.int .i64 (q.length:Int)] 3)) 0 (.slice (some ⟨w2.heap.size,0,none⟩) 1 1)):=by
  refine ⟨?_,?_,?_,kpB (hbw2.alloc hbw2.size _),(hbw2.alloc hbw2.size _).size⟩
  ·exact HP.out.below (hbw2.alloc hbw2.size _)
  ·exact (own_weaken ho2 (Nat.le_refl _)).alloc _
  ·exact World.ownsRow_lit w2 #[.int .i64 (q.length:Int)] 1 hbw2.size (by unfold maxLen;omega) rfl
 have HBW:=hide hbw2
 clear ho2 hb2 hbw2 m1 m3 n2 n3 n4 HL HO
 have hd2:(bits .and .i64 (way:Int) 1 == 1)=false:=by rw [h1b];exact hcond.resolve_left (by omega)
 clear hcond h1b
 go_wp2_with fail
 go_loopw [9,10,11] (fun oo ii _ wr=>∃ (k g c:Nat),ii=.int .i64 k∧k≤q.length∧oo=.slice (some ⟨g,0,none⟩) (1+k * 2) c∧AskI w os rcs ro R v td rec fs ls q (.slice la q.length lcap) wr k (.slice (some ⟨g,0,none⟩) (1+k * 2) c)) (fun _ ii _ _=>q.length - (intOf ii).toNat)
 case atStart=>exact ⟨0,w2.heap.size,1,rfl,by omega,rfl,HINI.out⟩
 case round =>
  clear HINI m2 m4
  obtain ⟨k,g,oc,rfl,hk,rfl,hI⟩:=hrel
  by_cases hlt:k<q.length
  ·have hpm:q.getD k (0,0) ∈ q:=by simp [List.getD_eq_getElem?_getD,hlt]
   have et:q.take (k+1)=q.take k++[q.getD k (0,0)]:=by
    rw [List.take_succ_eq_append_getElem hlt];simp [List.getD_eq_getElem?_getD,hlt]
   have hc:=HF.out.2.2.1 _ hpm
   have hnf:=HF.out.2.2.2.1 _ hpm
   have hnotin:(q.getD k (0,0)).1 ∉ (q.take k).map Prod.fst:=by
    have:=HF.out.2.1
    have e2:q.map Prod.fst=((q.take k).map Prod.fst++[(q.getD k (0,0)).1])++(q.drop (k+1)).map Prod.fst:=by
     conv=>lhs;rw [← List.take_append_drop (k+1) q,et]
     simp
    rw [e2] at this
    have:=(List.nodup_append.1 (List.nodup_append.1 this).1).2.2
    intro hm
    exact this _ hm _ (by simp) rfl
   have hll:(linesId ls q).length=q.length:=by simp [linesId]
   have hlk:(linesId ls q).getD k (0,0)=((ls.getD (q.getD k (0,0)).1 L0).id,(q.getD k (0,0)).2):=by simp [linesId,List.getD_eq_getElem?_getD,hlt]
   have hrowP:=hI.row
   rw [← hll] at hrowP
   obtain ⟨PG,hPG,hPlt,p1,p2⟩:=parts_cells hrowP k (by rw [hll];exact hlt)
   rw [hlk] at p1 p2
   generalize hpk:q.getD k (0,0)=p at *
   obtain ⟨c,n⟩:=p
   simp only at *
   subst hPG
   have hlen:=holdS_len (q.take k) ls
   have hout:=holdS_out (q.take k) ls hnotin
   have hrv:=hI.rv
   have hok:=hrv.ok _ (mem_getD (k:=c) (by rw [hlen];exact hc))
   rw [hout] at hok
   have hidx:idx (ls.getD c L0).id (holdS ls (q.take k))=c:=by
    have:=idx_uniq (ls:=holdS ls (q.take k)) (fun i j h1 h2 he=>HIDS.out i j (by rw [← hlen];exact h1) (by rw [← hlen];exact h2) (by rw [holdS_id,holdS_id] at he;exact he)) (c:=c) (by rw [hlen];exact hc)
    rw [holdS_id] at this;exact this
   have HAT:=hide (at_any hrv (ls.getD c L0).id hok.id)
   have hatv:atV (holdS ls (q.take k)) (ls.getD c L0).id=(c:Int):=by unfold atV;rw [hidx,if_pos (by rw [hlen];exact hc)]
   rw [hatv] at HAT
   obtain ⟨va',vcap',hv',hcells⟩:=hrv.shape
   rw [hlen] at hv' hcells
   have hv'':=HVV.out.symm.trans hv'
   cases hv''
   obtain ⟨G',hG',hGlt',hcl⟩:=hcells (by omega)
   cases hG'
   have cR:=hrv.c1
   rw [HVV.out] at cR
   have e5:wr.cell? ⟨G,c * 11+5,none⟩=some (.int .i64 ((ls.getD c L0).free:Int)):=by rw [hcl c hc 5 (by omega),hout];rfl
   have e6:wr.cell? ⟨G,c * 11+6,none⟩=some (.int .i64 ((ls.getD c L0).held:Int)):=by rw [hcl c hc 6 (by omega),hout];rfl
   have hrowv:=hrv.row
   rw [hlen,HVV.out] at hrowv
   obtain ⟨csG,hcsG⟩:=own_ty hrowv rfl
   have f5:=blk_free hcsG (c * 11+5)
   have f6:=blk_free hcsG (c * 11+6)
   have hRG:¬ R=G:=ty_ne hrv.store hcsG (by decide)
   obtain ⟨csP,hcsP⟩:=own_ty hrowP rfl
   have hPG:¬ PG=G:=ty_ne hcsP hcsG (by decide)
   have hPne:¬ G=PG:=fun e=>hPG e.symm
   have hgne:(Value.slice (some ⟨g,0,none⟩) (1+k * 2) oc).ownBlock≠some G:=own_ne_lot hI.out hcsG (by decide)
   have hlne:(Value.slice (some ⟨PG,0,none⟩) q.length lcap).ownBlock≠some G:=own_ne_lot hI.row hcsG (by decide)
   have hsum:=hok.sum
   have hrv2:=hrv.two (i:=c) (l':=holdL (ls.getD c L0) n) (by rw [HVV.out,hlen]) (by rw [hlen];exact hc) (holdL_ok hok hnf) (by rw [hout];rfl) (by rw [hout];rfl) (((ls.getD c L0).free:Int) - (n:Int)) (((ls.getD c L0).held:Int)+(n:Int)) 5 6 (by omega) (by omega) (fun f=>by
    rw [hout]
    have x1:(((ls.getD c L0).free:Int) - (n:Int))=(((ls.getD c L0).free - n:Nat):Int):=by omega
    rw [x1];rfl)
   have hls:holdS ls (q.take (k+1))=(holdS ls (q.take k)).set c (holdL (ls.getD c L0) n):=by rw [et,holdS_snoc,hout]
   rw [← hls] at hrv2
   have hrow2:=own_two (G:=G) (i:=c) (j:=5) (k:=6) (x:=((ls.getD c L0).free:Int) - (n:Int)) (y:=((ls.getD c L0).held:Int)+(n:Int)) hI.row hlne
   have hout2:=own_two (G:=G) (i:=c) (j:=5) (k:=6) (x:=((ls.getD c L0).free:Int) - (n:Int)) (y:=((ls.getD c L0).held:Int)+(n:Int)) hI.out hgne
   have hkp2:Kp (fun b=>v.ownBlock=some b) w (twoW wr G c 5 6 (((ls.getD c L0).free:Int) - (n:Int)) (((ls.getD c L0).held:Int)+(n:Int))):=hI.kp.trans (twoW_kp (Or.inl (by rw [HVV.out];rfl)))
   have HET:Hid (toldL ls (q.take (k+1))=toldL ls (q.take k)++[(ls.getD c L0).id,n]):=by unfold Hid;rw [et,toldL_snoc]
   have hidb:=hok.id
   have hfb:(ls.getD c L0).free≤2147483647:=by omega
   have hhb:(ls.getD c L0).held+n≤2147483647:=by omega
   have HR2:=hide hrv2
   have HW2:=hide hrow2
   have HO2:=hide hout2
   have HK2:=hide hkp2
   have hsz2:=hI.sz
   have s1:(twoW wr G c 5 6 (((ls.getD c L0).free:Int) - (n:Int)) (((ls.getD c L0).held:Int)+(n:Int))).cell? ⟨PG,k * 2,none⟩=some (.int .i64 ((ls.getD c L0).id:Int)):=(World.cell?_of_block (a:=⟨PG,k * 2,none⟩) (twoW_other hPG)).trans p1
   have s2:(twoW wr G c 5 6 (((ls.getD c L0).free:Int) - (n:Int)) (((ls.getD c L0).held:Int)+(n:Int))).cell? ⟨PG,k * 2+1,none⟩=some (.int .i64 (n:Int)):=(World.cell?_of_block (a:=⟨PG,k * 2+1,none⟩) (twoW_other hPG)).trans p2
   generalize hfre:(ls.getD c L0).free=fr at *
   generalize hhel:(ls.getD c L0).held=hd at *
   generalize hide':(ls.getD c L0).id=idc at *
   have hlb:c<ls.length:=hc
   have hgP:(Value.slice (some ⟨g,0,none⟩) (1+k * 2) oc).ownBlock≠some PG:=own_ne_lot hI.out hcsP (by decide)
   clear hfre hhel hide' hpm et hnotin hll hlk hrowP hpk hlen hout hrv hok hidx hatv hv' hcells hcl hrowv hcsG hcsP hgne hlne hsum hrv2 hls hrow2 hout2 hkp2 hI hc
   clear h1 h2 h3 h4 h5 hsm hn10 hzb hl hqpos hlspos hGlt n0 n1 c2 hgn hnf hGlt'
   try clear hd2
   go_wp2_with (go_at_call 111;with_reducible refine (HAT.out).mono ?_;rintro e w3 ⟨rfl,hw3⟩;have hw4:=hw3.symm;subst hw4)
   go_region
   go_wp2_with fail
   go_region
   go_wp2_with fail
   have hfold:((wr.setCell ⟨G,c * 11+5,none⟩ (.int .i64 ((fr:Int) - (n:Int)))).setCell ⟨G,c * 11+6,none⟩ (.int .i64 ((hd:Int)+(n:Int)))).drew.drew=twoW wr G c 5 6 ((fr:Int) - (n:Int)) ((hd:Int)+(n:Int)):=rfl
   rw [hfold]
   clear hfold e5 e6 f5 f6 p1 p2 cR
   have hPlt':PG<(twoW wr G c 5 6 ((fr:Int) - (n:Int)) ((hd:Int)+(n:Int))).heap.size:=by rw [twoW_size];exact hPlt
   have hszT:w.heap.size≤(twoW wr G c 5 6 ((fr:Int) - (n:Int)) ((hd:Int)+(n:Int))).heap.size:=by rw [twoW_size];exact hsz2
   generalize twoW wr G c 5 6 ((fr:Int) - (n:Int)) ((hd:Int)+(n:Int))=wt at *
   have hbl:Below wt.heap.size wt (wt.alloc (.cells #[.int .i64 (idc:Int),.int .i64 (n:Int)] 3)).drew:=(al1 wt _).drew
   have hbk:(wt.alloc (.cells #[.int .i64 (idc:Int),.int .i64 (n:Int)] 3)).drew.heap[wt.heap.size]?=some (.cells #[.int .i64 (idc:Int),.int .i64 (n:Int)] 3 (0,0)):=heap_alloc_new wt _
   have hone:∀ u ∈ ([.int .i64 (idc:Int),.int .i64 (n:Int)]:List Value),u.oneCell'=true:=by
    intro u hu;simp at hu;rcases hu with rfl | rfl <;> rfl
   have hout3:=own_below HO2.out hbl
   have HBL:=hide hbl
   have hql30:q.length≤30:=HF.out.1
   have hPltT:PG<wt.heap.size:=hPlt'
   have HPL:=hide hPltT
   clear hRG hPG hPne hidb hfb hhb hlb hroom hsz2 hPlt
   go_region_held3 (fun w'=>w'.cell? ⟨PG,k * 2,none⟩=some (.int .i64 (idc:Int))∧w'.cell? ⟨PG,k * 2+1,none⟩=some (.int .i64 (n:Int)))
    (first
     | go_keep
     | (go_split_ands;refine ⟨?_,?_⟩ <;> (rw [hgrow.cell_far _ (by simp;omega) (Ne.symm hgP)];assumption)))
    ((refine step_append_lies _ (by rfl) _ _ _ (by rfl) w.heap.size 3 i3 (.int .i64 0) 1 8 tUInts hi3 hy0 hy1 hy2 rfl (by decide) (.slice (some ⟨g,0,none⟩) (1+k * 2) oc) (1+k * 2) (I (q.length :: toldL ls (q.take k))) (by rfl) hout3 ⟨wt.heap.size,0,none⟩ 2 2 [.int .i64 (idc:Int),.int .i64 (n:Int)] (by rfl) (by rfl) (World.news_of_block hbk) hone (by decide) (by unfold maxLen;omega) (by omega) (by simp;omega) (wt.heap.size+1) (by simp) ?_;intro g2 cap2 w5 hown5 hgrow hat hlt5))
   all_goals
    have e1:I (q.length :: toldL ls (q.take k))++[.int .i64 (idc:Int),.int .i64 (n:Int)]=I (q.length :: toldL ls (q.take (k+1))):=by rw [HET.out];simp [I]
    rw [e1] at hown5
    have hb5:∀ b,b<wt.heap.size→(Value.slice (some ⟨g,0,none⟩) (1+k * 2) oc).ownBlock≠some b→w5.heap[b]?=wt.heap[b]?:=fun b hb hne=>(hgrow.block b (Nat.lt_of_lt_of_le hb HBL.out.size) (fun e=>hne e.symm)).trans (HBL.out.block b hb)
    have hgb:∀ b,(Value.slice (some ⟨g,0,none⟩) (1+k * 2) oc).ownBlock=some b→w.heap.size≤b:=fun b hb=>(HO2.out.lt b hb).1
    have hI5:AskI w os rcs ro R v td rec fs ls q (.slice (some ⟨PG,0,none⟩) q.length lcap) w5 (k+1) (.slice (some ⟨g2,0,none⟩) (1+(k+1) * 2) cap2):=by
     have hne3:∀ (b:Nat) (cs:Array Value) (t:TypeId),wt.heap[b]?=some (.cells cs t (0,0))→t≠3→w5.heap[b]?=wt.heap[b]?:=fun b cs t hb ht=>hb5 b (blk_lt hb) (fun e=>by
      obtain ⟨cs',hc'⟩:=own_ty HO2.out e
      exact ty_ne hb hc' ht rfl)
     refine ⟨HR2.out.typed hne3,own_congr HW2.out (fun b hb=>by obtain ⟨cs',hc'⟩:=own_ty HW2.out hb;exact hne3 b _ _ hc' (by decide)),by rw [show 1+(k+1) * 2=1+k * 2+2 by omega];exact hown5,?_,Nat.le_trans hszT (Nat.le_trans HBL.out.size hgrow.size)⟩
     exact HK2.out.trans (Kp.before HBL.out ⟨hgrow.os,hgrow.tape,hgrow.output,hgrow.size,fun b hb hz=>hgrow.block b hb (fun e=>hz (Or.inl (Or.inr (hgb b e.symm))))⟩)
    have HI5:=hide hI5
    clear e1 hown5 hgrow hat hlt5 hb5 hgb hI5 hbl hbk hone hout3 s1 s2
    go_wp2_with fail
    go_roundw
    case rel=>exact ⟨k+1,g2,cap2,by go_num,by omega,by rw [show 1+(k+1) * 2=1+k * 2+2 by omega],HI5.out⟩
    case measure=>simp [intOf];omega
  ·obtain rfl:k=q.length:=by omega
   have hrv:=hI.rv
   rw [List.take_length] at hrv
   have hout:=hI.out
   rw [List.take_length] at hout
   have hrowP:=hI.row
   have hll:(linesId ls q).length=q.length:=by simp [linesId]
   have hgnV:v.ownBlock≠some gn:=fun e=>by
    obtain ⟨cs',hc'⟩:=own_ty HP.out.row e
    exact ty_ne HCS.out hc' (by decide) rfl
   have hgnw:=hI.kp.block gn hgn hgnV
   have x0:wr.cell? ⟨gn,0,none⟩=some (.int .i64 (id:Int)):=(World.cell?_of_block (a:=⟨gn,0,none⟩) hgnw).trans n0
   have x1:wr.cell? ⟨gn,1,none⟩=some (.int .i64 (goods:Int)):=(World.cell?_of_block (a:=⟨gn,1,none⟩) hgnw).trans n1
   have x2:=hrv.c2
   rw [HOV.out,← HON.out] at x2
   have xf:=blk_free hrv.store 2
   have hRlt:=blk_lt hrv.store
   have hrowO:=hrv.ord.row
   rw [HOV.out,← HON.out] at hrowO
   have hoR:(Value.slice oa on ocap).ownBlock≠some R:=own_ne_lot hrowO hrv.store (by decide)
   have hbl:Below wr.heap.size wr (wr.alloc (.cells #[.int .i64 (id:Int),.int .i64 (goods:Int),.slice la q.length lcap] 132)).drew:=(al1 wr _).drew
   have hbk:(wr.alloc (.cells #[.int .i64 (id:Int),.int .i64 (goods:Int),.slice la q.length lcap] 132)).drew.heap[wr.heap.size]?=some (.cells #[.int .i64 (id:Int),.int .i64 (goods:Int),.slice la q.length lcap] 132 (0,0)):=heap_alloc_new wr _
   have hone:∀ u ∈ ([.int .i64 (id:Int),.int .i64 (goods:Int),.slice la q.length lcap]:List Value),u.oneCell'=true:=by
    intro u hu;simp at hu;rcases hu with rfl | rfl | rfl <;> rfl
   have hcA:(wr.alloc (.cells #[.int .i64 (id:Int),.int .i64 (goods:Int),.slice la q.length lcap] 132)).drew.cell? ⟨R,2,none⟩=some (.slice oa on ocap):=(hbl.cell (by exact hRlt)).trans x2
   have hfA:(wr.alloc (.cells #[.int .i64 (id:Int),.int .i64 (goods:Int),.slice la q.length lcap] 132)).drew.frozen? ⟨R,2,none⟩=false:=(hbl.frozen (by exact hRlt)).trans xf
   have HszA:Hid (R<(wr.alloc (.cells #[.int .i64 (id:Int),.int .i64 (goods:Int),.slice la q.length lcap] 132)).drew.heap.size):=Nat.lt_of_lt_of_le hRlt hbl.size
   have HVR:=hide (Ne.symm hoR)
   have HRV:=hide hrv
   have HOUT:=hide hout
   have HRP:=hide hrowP
   have HRO:=hide hrowO
   have HBL:=hide hbl
   have HKI:=hide hI.kp
   have HSZ:=hide hI.sz
   have hrowO':=own_below hrowO hbl
   clear hrv hout hrowP hgnV hgnw hoR hrowO hI hsm hzb hl hqpos hlspos hGlt n0 n1 c2 h2 h3 h4 h5 hll hlt
   try clear hd2
   have HTL:Hid ((toldQ ls q).length=1+q.length * 2):=by unfold Hid;simp [toldQ,toldL_len];omega
   have HFN:=hide (fun (g2 cap2:Nat) (w5:World) hgrow hown5 hat=>ask_fin (w5:=w5) (g2:=g2) (cap2:=cap2) (id:=id) (goods:=goods) HRV.out HOUT.out HRP.out HKI.out HBL.out hgrow hown5 hat (fun b hb=>HP.out.ord.lt (Or.inr (Or.inr hb))))
   rw [HOV.out,← HON.out] at HFN
   go_wp2_with fail
   go_region_law (refine step_append_lies _ (by rfl) _ _ _ (by rfl) 0 132 io (.agg #[.int .i64 0,.int .i64 0,.slice none 0 0]) 3 40 tUOrds hio ho0 ho1 ho2 rfl (by decide) (.slice oa on ocap) on (oflat os ro.lvs) (by rfl) hrowO' ⟨wr.heap.size,0,none⟩ 1 1 [.int .i64 (id:Int),.int .i64 (goods:Int),.slice la q.length lcap] (by rfl) (by rfl) (World.news_of_block hbk) hone (by decide) (by unfold maxLen;omega) (by omega) (Nat.zero_le _) (wr.heap.size+1) (by simp) ?_;intro g2 cap2 w5 hown5 hgrow hat hlt5;have hcw:=(hgrow.cell_far ⟨R,2,none⟩ HszA.out HVR.out).trans hcA;have hfw:=(hgrow.frozen_far ⟨R,2,none⟩ HszA.out HVR.out).trans hfA)
   all_goals
    have HFI:=hide (HFN.out g2 cap2 w5 hgrow hown5 hat)
    clear hown5 hgrow hat hlt5 hcw hfw hcA hfA x0 x1 x2 xf hbl hbk hone hrowO' HFN
    generalize w5.setCell ⟨R,2,none⟩ (.slice (some ⟨g2,0,none⟩) (on+1) cap2)=w6 at *
    go_wp2_with fail
    go_ret2
    exact ⟨by have hq:=HFI.out.1;rw [HON.out,← HOV.out] at hq;exact hq,HFI.out.2.1,g,oc,by rw [HTL.out];rfl,HFI.out.2.2⟩
end Go.Proofs.YtgcedalggnmooaaGreatDoor
namespace Go.Proofs.YtgcedalggnmooaaGreatDoor
open Go.RowKit
set_option maxHeartbeats 6400000 in
theorem askR_ok2 {rcs:List (Nat × Nat)} {w:World} {R:Nat} {v:Value} {td:Nat} {rec:ByteArray} {fs:List Value} {ls:List L} {os:List O} {ro:Ro} (h:RV os rcs ro w R v td rec fs ls) (hgo:Good os ls) (gn cap:Nat) (id goods count gate way:Nat) (hn:NS w gn [id,goods,count,gate,way]) (h1:id≤2147483647) (h2:goods≤2147483647) (h3:count≤2147483647) (h4:gate≤2147483647) (h5:way≤3)
  (hany:os.any (fun o=>o.id == id)=false) (h10:¬ 10≤os.length) (hl:¬ sumQ (linesQ rcs td goods count gate way ls)<count) (hsh:¬ (sumQ (linesQ rcs td goods count gate way ls)=0∨(sumQ (linesQ rcs td goods count gate way ls)<count∧wayW way=true))) :
  Calls Tryz.prog 69 #[.pointer (some ⟨R,0,none⟩),.slice (some ⟨gn,0,none⟩) 5 cap] w fun e w'=>Kp (fun b=>b=R∨v.ownBlock=some b∨ro.ov.ownBlock=some b) w w' ∧
   (∃ ro',RV (os++[⟨id,goods,linesId ls (linesQ rcs td goods count gate way ls)⟩]) rcs ro' w' R v td rec fs (holdS ls (linesQ rcs td goods count gate way ls))∧∀ b,OB ro' b→OB ro b∨w.heap.size≤b) ∧
   ∃ g c,e=.returned (.tuple #[.slice (some ⟨g,0,none⟩) (toldQ ls (linesQ rcs td goods count gate way ls)).length c,.int .i64 0])∧Rw w' g (toldQ ls (linesQ rcs td goods count gate way ls)):=by
 obtain ⟨i3,hi3,hy0,hy1,hy2⟩:=info_parts info3'
 obtain ⟨io,hio,ho0,ho1,ho2⟩:=info_parts infoOrd
 have n0:w.cell? ⟨gn,0,none⟩=some (.int .i64 (id:Int)):=hn.2 0 (by simp)
 have n1:w.cell? ⟨gn,1,none⟩=some (.int .i64 (goods:Int)):=hn.2 1 (by simp)
 have n2:w.cell? ⟨gn,2,none⟩=some (.int .i64 (count:Int)):=hn.2 2 (by simp)
 have n3:w.cell? ⟨gn,3,none⟩=some (.int .i64 (gate:Int)):=hn.2 3 (by simp)
 have n4:w.cell? ⟨gn,4,none⟩=some (.int .i64 (way:Int)):=hn.2 4 (by simp)
 obtain ⟨cs,hcs⟩:=hn.1
 have hgn:=blk_lt hcs
 have HO:=hide (orderR_any h hgo.olen hgo.oid id h1)
 obtain ⟨oa,ocap,hov,_⟩:=h.ord.shape
 have c2:=h.c2
 rw [hov] at c2
 have hx:¬ oix id os<os.length:=fun q=>by rw [oix_any.1 q] at hany;cases hany
 have HV:Hid (orderV os id=-1):=by unfold Hid orderV;rw [if_neg hx]
 rw [HV.out] at HO
 have HL:=hide (linesR_any (h.below (drewB w)) hgo goods count gate way h2 h3 h4 h5)
 have HF:=hide (linesQ_facts (rcs:=rcs) td goods count gate way ls h.room)
 have hsm:sumQ (linesQ rcs td goods count gate way ls)≤2147483647:=Nat.le_trans HF.out.2.2.2.2 h3
 have h1b:=and1e h5
 have hn10:os.length<10:=by omega
 have HCS:=hide hcs
 have HP:=hide h
 have HIDS:=hide hgo.ids
 have HOV:=hide hov
 have hroom:=h.room
 have hqpos:0<(linesQ rcs td goods count gate way ls).length:=by
  cases hq:linesQ rcs td goods count gate way ls with
  | nil=>rw [hq] at hsh;exact absurd (Or.inl rfl) hsh
  | cons p r=>simp
 have hlspos:0<ls.length:=by
  cases hq:linesQ rcs td goods count gate way ls with
  | nil=>rw [hq] at hqpos;simp at hqpos
  | cons p r=>have:=HF.out.2.2.1 p (by rw [hq];simp);omega
 obtain ⟨va,vcap,hv,hvc⟩:=h.shape
 obtain ⟨G,hG,hGlt,_⟩:=hvc hlspos
 subst hG
 have HVV:=hide hv
 have hrowv:=h.row
 rw [hv] at hrowv
 obtain ⟨csG,hcsG⟩:=own_ty hrowv rfl
 have HCG:=hide hcsG
 obtain ⟨on,HON⟩:∃ on,Hid (on=os.length):=⟨_,rfl⟩
 rw [← HON.out] at c2 hn10
 have hcond:¬ (sumQ (linesQ rcs td goods count gate way ls)<count)∨wayW way=false:=by
  by_cases hl:sumQ (linesQ rcs td goods count gate way ls)<count
  ·right;cases hw:wayW way with
   | false=>rfl
   | true=>exact absurd (Or.inr ⟨hl,hw⟩) hsh
  ·exact Or.inl hl
 have hzb:((sumQ (linesQ rcs td goods count gate way ls):Int) == 0)=false:=by
  rw [beq_eq_false_iff_ne];intro e;exact hsh (Or.inl (Int.natCast_eq_zero.1 e))
 generalize linesQ rcs td goods count gate way ls=q at *
 obtain ⟨sq,HSQ⟩:∃ sq,Hid (sq=sumQ q):=⟨_,rfl⟩
 rw [← HSQ.out] at hsm hcond hzb HL hl
 clear h hgo hn hany hov hx hcs HV h10 hsh hv hvc hrowv hcsG
 go_enter Tryz.func69,Tryz.ntmps69
 go_wp2_with (go_at_call 114;with_reducible refine (HO.out).mono ?_;rintro e w1 ⟨rfl,hw1⟩;have hw2:=hw1.symm;subst hw2)
 go_region_held3 (fun w'=>w'.cell? ⟨gn,1,none⟩=some (.int .i64 (goods:Int))∧w'.cell? ⟨gn,2,none⟩=some (.int .i64 (count:Int))∧w'.cell? ⟨gn,3,none⟩=some (.int .i64 (gate:Int))∧w'.cell? ⟨gn,4,none⟩=some (.int .i64 (way:Int))) (go_keep)
  (first
   | (go_at_call 115;refine (HL.out).mono ?_;rintro e w2 ⟨hb2,lv,rfl,ho2⟩;have m1:=(hb2.cell (p:=⟨gn,1,none⟩) (by exact hgn)).trans n1;have m2:=(hb2.cell (p:=⟨gn,2,none⟩) (by exact hgn)).trans n2;have m3:=(hb2.cell (p:=⟨gn,3,none⟩) (by exact hgn)).trans n3;have m4:=(hb2.cell (p:=⟨gn,4,none⟩) (by exact hgn)).trans n4))
 obtain ⟨la,lcap,hlv⟩:=own_shapeS ho2
 subst hlv
 have hbw2:Below w.heap.size w w2:=(drewB w).trans (hb2.mono (drewB w).size)
 have HINI:Hid (AskI w os rcs ro R v td rec fs ls q (.slice la q.length lcap) (w2.alloc (.cells #[.int .i64 (q.length:Int)] 3)) 0 (.slice (some ⟨w2.heap.size,0,none⟩) 1 1)):=by
  refine ⟨?_,?_,?_,kpB (hbw2.alloc hbw2.size _),(hbw2.alloc hbw2.size _).size⟩
  ·exact HP.out.below (hbw2.alloc hbw2.size _)
  ·exact (own_weaken ho2 (Nat.le_refl _)).alloc _
  ·exact World.ownsRow_lit w2 #[.int .i64 (q.length:Int)] 1 hbw2.size (by unfold maxLen;omega) rfl
 have HBW:=hide hbw2
 clear ho2 hb2 hbw2 m1 m3 n2 n3 n4 HL HO
 clear hcond h1b
 go_wp2_with fail
 go_loopw [9,10,11] (fun oo ii _ wr=>∃ (k g c:Nat),ii=.int .i64 k∧k≤q.length∧oo=.slice (some ⟨g,0,none⟩) (1+k * 2) c∧AskI w os rcs ro R v td rec fs ls q (.slice la q.length lcap) wr k (.slice (some ⟨g,0,none⟩) (1+k * 2) c)) (fun _ ii _ _=>q.length - (intOf ii).toNat)
 case atStart=>exact ⟨0,w2.heap.size,1,rfl,by omega,rfl,HINI.out⟩
 case round =>
  clear HINI m2 m4
  obtain ⟨k,g,oc,rfl,hk,rfl,hI⟩:=hrel
  by_cases hlt:k<q.length
  ·have hpm:q.getD k (0,0) ∈ q:=by simp [List.getD_eq_getElem?_getD,hlt]
   have et:q.take (k+1)=q.take k++[q.getD k (0,0)]:=by
    rw [List.take_succ_eq_append_getElem hlt];simp [List.getD_eq_getElem?_getD,hlt]
   have hc:=HF.out.2.2.1 _ hpm
   have hnf:=HF.out.2.2.2.1 _ hpm
   have hnotin:(q.getD k (0,0)).1 ∉ (q.take k).map Prod.fst:=by
    have:=HF.out.2.1
    have e2:q.map Prod.fst=((q.take k).map Prod.fst++[(q.getD k (0,0)).1])++(q.drop (k+1)).map Prod.fst:=by
     conv=>lhs;rw [← List.take_append_drop (k+1) q,et]
     simp
    rw [e2] at this
    have:=(List.nodup_append.1 (List.nodup_append.1 this).1).2.2
    intro hm
    exact this _ hm _ (by simp) rfl
   have hll:(linesId ls q).length=q.length:=by simp [linesId]
   have hlk:(linesId ls q).getD k (0,0)=((ls.getD (q.getD k (0,0)).1 L0).id,(q.getD k (0,0)).2):=by simp [linesId,List.getD_eq_getElem?_getD,hlt]
   have hrowP:=hI.row
   rw [← hll] at hrowP
   obtain ⟨PG,hPG,hPlt,p1,p2⟩:=parts_cells hrowP k (by rw [hll];exact hlt)
   rw [hlk] at p1 p2
   generalize hpk:q.getD k (0,0)=p at *
   obtain ⟨c,n⟩:=p
   simp only at *
   subst hPG
   have hlen:=holdS_len (q.take k) ls
   have hout:=holdS_out (q.take k) ls hnotin
   have hrv:=hI.rv
   have hok:=hrv.ok _ (mem_getD (k:=c) (by rw [hlen];exact hc))
   rw [hout] at hok
   have hidx:idx (ls.getD c L0).id (holdS ls (q.take k))=c:=by
    have:=idx_uniq (ls:=holdS ls (q.take k)) (fun i j h1 h2 he=>HIDS.out i j (by rw [← hlen];exact h1) (by rw [← hlen];exact h2) (by rw [holdS_id,holdS_id] at he;exact he)) (c:=c) (by rw [hlen];exact hc)
    rw [holdS_id] at this;exact this
   have HAT:=hide (at_any hrv (ls.getD c L0).id hok.id)
   have hatv:atV (holdS ls (q.take k)) (ls.getD c L0).id=(c:Int):=by unfold atV;rw [hidx,if_pos (by rw [hlen];exact hc)]
   rw [hatv] at HAT
   obtain ⟨va',vcap',hv',hcells⟩:=hrv.shape
   rw [hlen] at hv' hcells
   have hv'':=HVV.out.symm.trans hv'
   cases hv''
   obtain ⟨G',hG',hGlt',hcl⟩:=hcells (by omega)
   cases hG'
   have cR:=hrv.c1
   rw [HVV.out] at cR
   have e5:wr.cell? ⟨G,c * 11+5,none⟩=some (.int .i64 ((ls.getD c L0).free:Int)):=by rw [hcl c hc 5 (by omega),hout];rfl
   have e6:wr.cell? ⟨G,c * 11+6,none⟩=some (.int .i64 ((ls.getD c L0).held:Int)):=by rw [hcl c hc 6 (by omega),hout];rfl
   have hrowv:=hrv.row
   rw [hlen,HVV.out] at hrowv
   obtain ⟨csG,hcsG⟩:=own_ty hrowv rfl
   have f5:=blk_free hcsG (c * 11+5)
   have f6:=blk_free hcsG (c * 11+6)
   have hRG:¬ R=G:=ty_ne hrv.store hcsG (by decide)
   obtain ⟨csP,hcsP⟩:=own_ty hrowP rfl
   have hPG:¬ PG=G:=ty_ne hcsP hcsG (by decide)
   have hPne:¬ G=PG:=fun e=>hPG e.symm
   have hgne:(Value.slice (some ⟨g,0,none⟩) (1+k * 2) oc).ownBlock≠some G:=own_ne_lot hI.out hcsG (by decide)
   have hlne:(Value.slice (some ⟨PG,0,none⟩) q.length lcap).ownBlock≠some G:=own_ne_lot hI.row hcsG (by decide)
   have hsum:=hok.sum
   have hrv2:=hrv.two (i:=c) (l':=holdL (ls.getD c L0) n) (by rw [HVV.out,hlen]) (by rw [hlen];exact hc) (holdL_ok hok hnf) (by rw [hout];rfl) (by rw [hout];rfl) (((ls.getD c L0).free:Int) - (n:Int)) (((ls.getD c L0).held:Int)+(n:Int)) 5 6 (by omega) (by omega) (fun f=>by
    rw [hout]
    have x1:(((ls.getD c L0).free:Int) - (n:Int))=(((ls.getD c L0).free - n:Nat):Int):=by omega
    rw [x1];rfl)
   have hls:holdS ls (q.take (k+1))=(holdS ls (q.take k)).set c (holdL (ls.getD c L0) n):=by rw [et,holdS_snoc,hout]
   rw [← hls] at hrv2
   have hrow2:=own_two (G:=G) (i:=c) (j:=5) (k:=6) (x:=((ls.getD c L0).free:Int) - (n:Int)) (y:=((ls.getD c L0).held:Int)+(n:Int)) hI.row hlne
   have hout2:=own_two (G:=G) (i:=c) (j:=5) (k:=6) (x:=((ls.getD c L0).free:Int) - (n:Int)) (y:=((ls.getD c L0).held:Int)+(n:Int)) hI.out hgne
   have hkp2:Kp (fun b=>v.ownBlock=some b) w (twoW wr G c 5 6 (((ls.getD c L0).free:Int) - (n:Int)) (((ls.getD c L0).held:Int)+(n:Int))):=hI.kp.trans (twoW_kp (Or.inl (by rw [HVV.out];rfl)))
   have HET:Hid (toldL ls (q.take (k+1))=toldL ls (q.take k)++[(ls.getD c L0).id,n]):=by unfold Hid;rw [et,toldL_snoc]
   have hidb:=hok.id
   have hfb:(ls.getD c L0).free≤2147483647:=by omega
   have hhb:(ls.getD c L0).held+n≤2147483647:=by omega
   have HR2:=hide hrv2
   have HW2:=hide hrow2
   have HO2:=hide hout2
   have HK2:=hide hkp2
   have hsz2:=hI.sz
   have s1:(twoW wr G c 5 6 (((ls.getD c L0).free:Int) - (n:Int)) (((ls.getD c L0).held:Int)+(n:Int))).cell? ⟨PG,k * 2,none⟩=some (.int .i64 ((ls.getD c L0).id:Int)):=(World.cell?_of_block (a:=⟨PG,k * 2,none⟩) (twoW_other hPG)).trans p1
   have s2:(twoW wr G c 5 6 (((ls.getD c L0).free:Int) - (n:Int)) (((ls.getD c L0).held:Int)+(n:Int))).cell? ⟨PG,k * 2+1,none⟩=some (.int .i64 (n:Int)):=(World.cell?_of_block (a:=⟨PG,k * 2+1,none⟩) (twoW_other hPG)).trans p2
   generalize hfre:(ls.getD c L0).free=fr at *
   generalize hhel:(ls.getD c L0).held=hd at *
   generalize hide':(ls.getD c L0).id=idc at *
   have hlb:c<ls.length:=hc
   have hgP:(Value.slice (some ⟨g,0,none⟩) (1+k * 2) oc).ownBlock≠some PG:=own_ne_lot hI.out hcsP (by decide)
   clear hfre hhel hide' hpm et hnotin hll hlk hrowP hpk hlen hout hrv hok hidx hatv hv' hcells hcl hrowv hcsG hcsP hgne hlne hsum hrv2 hls hrow2 hout2 hkp2 hI hc
   clear h1 h2 h3 h4 h5 hsm hn10 hzb hl hqpos hlspos hGlt n0 n1 c2 hgn hnf hGlt'
   try clear hd2
   go_wp2_with (go_at_call 111;with_reducible refine (HAT.out).mono ?_;rintro e w3 ⟨rfl,hw3⟩;have hw4:=hw3.symm;subst hw4)
   go_region
   go_wp2_with fail
   go_region
   go_wp2_with fail
   have hfold:((wr.setCell ⟨G,c * 11+5,none⟩ (.int .i64 ((fr:Int) - (n:Int)))).setCell ⟨G,c * 11+6,none⟩ (.int .i64 ((hd:Int)+(n:Int)))).drew.drew=twoW wr G c 5 6 ((fr:Int) - (n:Int)) ((hd:Int)+(n:Int)):=rfl
   rw [hfold]
   clear hfold e5 e6 f5 f6 p1 p2 cR
   have hPlt':PG<(twoW wr G c 5 6 ((fr:Int) - (n:Int)) ((hd:Int)+(n:Int))).heap.size:=by rw [twoW_size];exact hPlt
   have hszT:w.heap.size≤(twoW wr G c 5 6 ((fr:Int) - (n:Int)) ((hd:Int)+(n:Int))).heap.size:=by rw [twoW_size];exact hsz2
   generalize twoW wr G c 5 6 ((fr:Int) - (n:Int)) ((hd:Int)+(n:Int))=wt at *
   have hbl:Below wt.heap.size wt (wt.alloc (.cells #[.int .i64 (idc:Int),.int .i64 (n:Int)] 3)).drew:=(al1 wt _).drew
   have hbk:(wt.alloc (.cells #[.int .i64 (idc:Int),.int .i64 (n:Int)] 3)).drew.heap[wt.heap.size]?=some (.cells #[.int .i64 (idc:Int),.int .i64 (n:Int)] 3 (0,0)):=heap_alloc_new wt _
   have hone:∀ u ∈ ([.int .i64 (idc:Int),.int .i64 (n:Int)]:List Value),u.oneCell'=true:=by
    intro u hu;simp at hu;rcases hu with rfl | rfl <;> rfl
   have hout3:=own_below HO2.out hbl
   have HBL:=hide hbl
   have hql30:q.length≤30:=HF.out.1
   have hPltT:PG<wt.heap.size:=hPlt'
   have HPL:=hide hPltT
   clear hRG hPG hPne hidb hfb hhb hlb hroom hsz2 hPlt
   go_region_held3 (fun w'=>w'.cell? ⟨PG,k * 2,none⟩=some (.int .i64 (idc:Int))∧w'.cell? ⟨PG,k * 2+1,none⟩=some (.int .i64 (n:Int)))
    (first
     | go_keep
     | (go_split_ands;refine ⟨?_,?_⟩ <;> (rw [hgrow.cell_far _ (by simp;omega) (Ne.symm hgP)];assumption)))
    ((refine step_append_lies _ (by rfl) _ _ _ (by rfl) w.heap.size 3 i3 (.int .i64 0) 1 8 tUInts hi3 hy0 hy1 hy2 rfl (by decide) (.slice (some ⟨g,0,none⟩) (1+k * 2) oc) (1+k * 2) (I (q.length :: toldL ls (q.take k))) (by rfl) hout3 ⟨wt.heap.size,0,none⟩ 2 2 [.int .i64 (idc:Int),.int .i64 (n:Int)] (by rfl) (by rfl) (World.news_of_block hbk) hone (by decide) (by unfold maxLen;omega) (by omega) (by simp;omega) (wt.heap.size+1) (by simp) ?_;intro g2 cap2 w5 hown5 hgrow hat hlt5))
   all_goals
    have e1:I (q.length :: toldL ls (q.take k))++[.int .i64 (idc:Int),.int .i64 (n:Int)]=I (q.length :: toldL ls (q.take (k+1))):=by rw [HET.out];simp [I]
    rw [e1] at hown5
    have hb5:∀ b,b<wt.heap.size→(Value.slice (some ⟨g,0,none⟩) (1+k * 2) oc).ownBlock≠some b→w5.heap[b]?=wt.heap[b]?:=fun b hb hne=>(hgrow.block b (Nat.lt_of_lt_of_le hb HBL.out.size) (fun e=>hne e.symm)).trans (HBL.out.block b hb)
    have hgb:∀ b,(Value.slice (some ⟨g,0,none⟩) (1+k * 2) oc).ownBlock=some b→w.heap.size≤b:=fun b hb=>(HO2.out.lt b hb).1
    have hI5:AskI w os rcs ro R v td rec fs ls q (.slice (some ⟨PG,0,none⟩) q.length lcap) w5 (k+1) (.slice (some ⟨g2,0,none⟩) (1+(k+1) * 2) cap2):=by
     have hne3:∀ (b:Nat) (cs:Array Value) (t:TypeId),wt.heap[b]?=some (.cells cs t (0,0))→t≠3→w5.heap[b]?=wt.heap[b]?:=fun b cs t hb ht=>hb5 b (blk_lt hb) (fun e=>by
      obtain ⟨cs',hc'⟩:=own_ty HO2.out e
      exact ty_ne hb hc' ht rfl)
     refine ⟨HR2.out.typed hne3,own_congr HW2.out (fun b hb=>by obtain ⟨cs',hc'⟩:=own_ty HW2.out hb;exact hne3 b _ _ hc' (by decide)),by rw [show 1+(k+1) * 2=1+k * 2+2 by omega];exact hown5,?_,Nat.le_trans hszT (Nat.le_trans HBL.out.size hgrow.size)⟩
     exact HK2.out.trans (Kp.before HBL.out ⟨hgrow.os,hgrow.tape,hgrow.output,hgrow.size,fun b hb hz=>hgrow.block b hb (fun e=>hz (Or.inl (Or.inr (hgb b e.symm))))⟩)
    have HI5:=hide hI5
    clear e1 hown5 hgrow hat hlt5 hb5 hgb hI5 hbl hbk hone hout3 s1 s2
    go_wp2_with fail
    go_roundw
    case rel=>exact ⟨k+1,g2,cap2,by go_num,by omega,by rw [show 1+(k+1) * 2=1+k * 2+2 by omega],HI5.out⟩
    case measure=>simp [intOf];omega
  ·obtain rfl:k=q.length:=by omega
   have hrv:=hI.rv
   rw [List.take_length] at hrv
   have hout:=hI.out
   rw [List.take_length] at hout
   have hrowP:=hI.row
   have hll:(linesId ls q).length=q.length:=by simp [linesId]
   have hgnV:v.ownBlock≠some gn:=fun e=>by
    obtain ⟨cs',hc'⟩:=own_ty HP.out.row e
    exact ty_ne HCS.out hc' (by decide) rfl
   have hgnw:=hI.kp.block gn hgn hgnV
   have x0:wr.cell? ⟨gn,0,none⟩=some (.int .i64 (id:Int)):=(World.cell?_of_block (a:=⟨gn,0,none⟩) hgnw).trans n0
   have x1:wr.cell? ⟨gn,1,none⟩=some (.int .i64 (goods:Int)):=(World.cell?_of_block (a:=⟨gn,1,none⟩) hgnw).trans n1
   have x2:=hrv.c2
   rw [HOV.out,← HON.out] at x2
   have xf:=blk_free hrv.store 2
   have hRlt:=blk_lt hrv.store
   have hrowO:=hrv.ord.row
   rw [HOV.out,← HON.out] at hrowO
   have hoR:(Value.slice oa on ocap).ownBlock≠some R:=own_ne_lot hrowO hrv.store (by decide)
   have hbl:Below wr.heap.size wr (wr.alloc (.cells #[.int .i64 (id:Int),.int .i64 (goods:Int),.slice la q.length lcap] 132)).drew:=(al1 wr _).drew
   have hbk:(wr.alloc (.cells #[.int .i64 (id:Int),.int .i64 (goods:Int),.slice la q.length lcap] 132)).drew.heap[wr.heap.size]?=some (.cells #[.int .i64 (id:Int),.int .i64 (goods:Int),.slice la q.length lcap] 132 (0,0)):=heap_alloc_new wr _
   have hone:∀ u ∈ ([.int .i64 (id:Int),.int .i64 (goods:Int),.slice la q.length lcap]:List Value),u.oneCell'=true:=by
    intro u hu;simp at hu;rcases hu with rfl | rfl | rfl <;> rfl
   have hcA:(wr.alloc (.cells #[.int .i64 (id:Int),.int .i64 (goods:Int),.slice la q.length lcap] 132)).drew.cell? ⟨R,2,none⟩=some (.slice oa on ocap):=(hbl.cell (by exact hRlt)).trans x2
   have hfA:(wr.alloc (.cells #[.int .i64 (id:Int),.int .i64 (goods:Int),.slice la q.length lcap] 132)).drew.frozen? ⟨R,2,none⟩=false:=(hbl.frozen (by exact hRlt)).trans xf
   have HszA:Hid (R<(wr.alloc (.cells #[.int .i64 (id:Int),.int .i64 (goods:Int),.slice la q.length lcap] 132)).drew.heap.size):=Nat.lt_of_lt_of_le hRlt hbl.size
   have HVR:=hide (Ne.symm hoR)
   have HRV:=hide hrv
   have HOUT:=hide hout
   have HRP:=hide hrowP
   have HRO:=hide hrowO
   have HBL:=hide hbl
   have HKI:=hide hI.kp
   have HSZ:=hide hI.sz
   have hrowO':=own_below hrowO hbl
   clear hrv hout hrowP hgnV hgnw hoR hrowO hI hsm hzb hl hqpos hlspos hGlt n0 n1 c2 h2 h3 h4 h5 hll hlt
   try clear hd2
   have HTL:Hid ((toldQ ls q).length=1+q.length * 2):=by unfold Hid;simp [toldQ,toldL_len];omega
   have HFN:=hide (fun (g2 cap2:Nat) (w5:World) hgrow hown5 hat=>ask_fin (w5:=w5) (g2:=g2) (cap2:=cap2) (id:=id) (goods:=goods) HRV.out HOUT.out HRP.out HKI.out HBL.out hgrow hown5 hat (fun b hb=>HP.out.ord.lt (Or.inr (Or.inr hb))))
   rw [HOV.out,← HON.out] at HFN
   go_wp2_with fail
   go_region_law (refine step_append_lies _ (by rfl) _ _ _ (by rfl) 0 132 io (.agg #[.int .i64 0,.int .i64 0,.slice none 0 0]) 3 40 tUOrds hio ho0 ho1 ho2 rfl (by decide) (.slice oa on ocap) on (oflat os ro.lvs) (by rfl) hrowO' ⟨wr.heap.size,0,none⟩ 1 1 [.int .i64 (id:Int),.int .i64 (goods:Int),.slice la q.length lcap] (by rfl) (by rfl) (World.news_of_block hbk) hone (by decide) (by unfold maxLen;omega) (by omega) (Nat.zero_le _) (wr.heap.size+1) (by simp) ?_;intro g2 cap2 w5 hown5 hgrow hat hlt5;have hcw:=(hgrow.cell_far ⟨R,2,none⟩ HszA.out HVR.out).trans hcA;have hfw:=(hgrow.frozen_far ⟨R,2,none⟩ HszA.out HVR.out).trans hfA)
   all_goals
    have HFI:=hide (HFN.out g2 cap2 w5 hgrow hown5 hat)
    clear hown5 hgrow hat hlt5 hcw hfw hcA hfA x0 x1 x2 xf hbl hbk hone hrowO' HFN
    generalize w5.setCell ⟨R,2,none⟩ (.slice (some ⟨g2,0,none⟩) (on+1) cap2)=w6 at *
    go_wp2_with fail
    go_ret2
    exact ⟨by have hq:=HFI.out.1;rw [HON.out,← HOV.out] at hq;exact hq,HFI.out.2.1,g,oc,by rw [HTL.out];rfl,HFI.out.2.2⟩
end Go.Proofs.YtgcedalggnmooaaGreatDoor
