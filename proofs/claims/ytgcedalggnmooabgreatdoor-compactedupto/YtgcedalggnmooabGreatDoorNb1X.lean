import Derived.Test.YtgcedalggnmooabGreatDoorCm0X
import Derived.Test.YtgcedalggnmooabGreatDoorHlX
import Derived.Test.YtgcedalggnmooabGreatDoorOd1X
import Derived.Test.YtgcedalggnmooabGreatDoorSaX
set_option linter.unusedSimpArgs false
set_option linter.unusedVariables false
set_option maxRecDepth 100000
namespace Go.Proofs.YtgcedalggnmooabGreatDoor
open Go.RowKit
theorem infoPar:(Tryz.prog.info? 156).map (fun i=>(i.zero,i.size,i.bytes))=some (some (.agg #[.int .i64 0,.int .i64 0]),2,16):=by kernel_rfl
theorem tUPars:Tryz.prog.underlying 151=some (.slice 156):=by kernel_rfl
theorem eqParN (a:Addr) (n c:Nat) (w:World):(binOp .eql 151 (.slice (some a) n c) (.slice none 0 0)).run Tryz.prog w=.ok (.bool false) w:=by kernel_rfl
theorem lflat_len2:∀ l:List (Nat × Nat),(lflat l).length=l.length * 2
 | []=>rfl
 | p :: l=>by simp only [lflat,List.length_cons,lflat_len2 l];omega
theorem lflat_one:∀ (l:List (Nat × Nat)) (u:Value),u ∈ lflat l→u.oneCell'=true
 | [],u,h=>by simp [lflat] at h
 | p :: l,u,h=>by
  simp only [lflat,List.mem_cons] at h
  rcases h with rfl | rfl | h
  ·rfl
  ·rfl
  ·exact lflat_one l u h
theorem lflat_get:∀ (l:List (Nat × Nat)) (j:Nat) (u:Value),(lflat l)[j]?=some u→∃ i,i<l.length∧((j=2 * i∧u=.int .i64 ((l.getD i (0,0)).1:Int))∨(j=2 * i+1∧u=.int .i64 ((l.getD i (0,0)).2:Int)))
 | [],j,u,h=>by simp [lflat] at h
 | p :: l,0,u,h=>by simp [lflat] at h;exact ⟨0,by simp,Or.inl ⟨rfl,by simp [← h]⟩⟩
 | p :: l,1,u,h=>by simp [lflat] at h;exact ⟨0,by simp,Or.inr ⟨rfl,by simp [← h]⟩⟩
 | p :: l,j+2,u,h=>by
  have h':(lflat l)[j]?=some u:=by simpa [lflat] using h
  obtain ⟨i,hi,hq⟩:=lflat_get l j u h'
  refine ⟨i+1,by simp;omega,?_⟩
  rcases hq with ⟨q1,q2⟩ | ⟨q1,q2⟩
  ·exact Or.inl ⟨by omega,by simpa using q2⟩
  ·exact Or.inr ⟨by omega,by simpa using q2⟩
set_option maxHeartbeats 1600000 in
theorem clonePar_any {w:World} {q cap:Nat} {cs:Array Value} {ps:List (Nat × Nat)} (hl:ps.length≤2) (hq:w.heap[q]?=some (.cells cs 156 (0,0))) (hc:∀ j,j<ps.length→cs[2 * j]?=some (.int .i64 ((ps.getD j (0,0)).1:Int))∧cs[2 * j+1]?=some (.int .i64 ((ps.getD j (0,0)).2:Int))) :
  Calls Tryz.prog 99 #[.slice (some ⟨q,0,none⟩) ps.length cap] w fun e w'=>Below w.heap.size w w'∧∃ v',e=.returned v'∧w'.ownsRow w.heap.size 156 2 v' ps.length (lflat ps):=by
 obtain ⟨i0,hi,hz0,hz1,hz2⟩:=info_parts infoPar
 have hq1:=eqParN
 have hgl:q<w.heap.size:=blk_lt hq
 have ha:=al1 w (.cells #[] 156)
 have ho0:(w.alloc (.cells #[] 156)).ownsRow w.heap.size 156 2 (.slice (some ⟨w.heap.size,0,none⟩) 0 0) 0 []:=World.ownsRow_lit w #[] 0 (Nat.le_refl _) (by unfold maxLen;simp) rfl
 have HC:Hid (∀ j u,(lflat ps)[j]?=some u→(w.alloc (.cells #[] 156)).cell? ((⟨q,0,none⟩:Addr).add j)=some u):=fun j u hu=>by
  rw [Addr.add_lit,ha.cell (by exact hgl)]
  obtain ⟨i,hi,hq'⟩:=lflat_get ps j u hu
  obtain ⟨c1,c2⟩:=hc i hi
  rcases hq' with ⟨rfl,rfl⟩ | ⟨rfl,rfl⟩
  ·rw [Nat.zero_add,blk_cell hq];exact c1
  ·rw [Nat.zero_add,blk_cell hq];exact c2
 have HA:=hide ha
 have hone:=lflat_one ps
 have hll:=lflat_len2 ps
 clear ha hq hc
 go_enter Tryz.func99,Tryz.ntmps99
 go_wp2_with (at_builtin;refine wpList_append_own _ rfl _ _ 151 rfl w.heap.size 156 i0 (.agg #[.int .i64 0,.int .i64 0]) 2 16 tUPars hi hz0 hz1 hz2 rfl (by decide) _ 0 [] rfl ho0 ⟨q,0,none⟩ ps.length cap (lflat ps) rfl (by rw [hll]) HC.out hone ?c3 ?c4 ?c5 ?_)
 case c3=>unfold maxLen;omega
 case c4=>omega
 case c5=>simp
 intro v' w2 hown2 hgrow hnn
 have hbb:Below w.heap.size w w2:=HA.out.grown hgrow HA.out.size (fun k hk=>(ho0.lt k hk).1)
 have HO:Hid (w2.ownsRow w.heap.size 156 2 v' ps.length (lflat ps)):=by
  unfold Hid;simpa using hown2
 clear hown2 hgrow hnn ho0
 go_wp2_with fail
 go_ret
 exact ⟨hbb,v',rfl,HO.out⟩
set_option maxHeartbeats 3200000 in
theorem lotNums_any {w:World} {b:Nat} {l:L} {pv:Value} (hb:w.heap[b]?=some (.cells (lotCells l pv) 153 (0,0))) (hp:Par w pv l.par) (hok:L.Ok l) :
  Calls Tryz.prog 66 #[.pointer (some ⟨b,0,none⟩)] w fun e w'=>Below w.heap.size w w'∧∃ g c,e=.returned (.slice (some ⟨g,0,none⟩) (lotP l).length c)∧w'.ownsRow w.heap.size 2 1 (.slice (some ⟨g,0,none⟩) (lotP l).length c) (lotP l).length (I (lotP l)):=by
 obtain ⟨i0,hi,hz0,hz1,hz2⟩:=info_parts info2
 have hblt:=blk_lt hb
 have c0:w.cell? ⟨b,0,none⟩=some (.int .i64 (l.id:Int)):=by rw [blk_cell hb];rfl
 have c1:w.cell? ⟨b,1,none⟩=some (.int .i64 (l.goods:Int)):=by rw [blk_cell hb];rfl
 have c2:w.cell? ⟨b,2,none⟩=some (.int .i64 (l.expiry:Int)):=by rw [blk_cell hb];rfl
 have c3:w.cell? ⟨b,3,none⟩=some (.int .i64 (l.place:Int)):=by rw [blk_cell hb];rfl
 have c4:w.cell? ⟨b,4,none⟩=some pv:=by rw [blk_cell hb];rfl
 have c5:w.cell? ⟨b,5,none⟩=some (.int .i64 (l.got:Int)):=by rw [blk_cell hb];rfl
 have c6:w.cell? ⟨b,6,none⟩=some (.int .i64 (l.free:Int)):=by rw [blk_cell hb];rfl
 have c7:w.cell? ⟨b,7,none⟩=some (.int .i64 (l.held:Int)):=by rw [blk_cell hb];rfl
 have c8:w.cell? ⟨b,8,none⟩=some (.int .i64 (l.shipped:Int)):=by rw [blk_cell hb];rfl
 have c9:w.cell? ⟨b,9,none⟩=some (.int .i64 (l.scrapped:Int)):=by rw [blk_cell hb];rfl
 obtain ⟨pa,pcap,hpv⟩:=Prs.isSl hp
 rw [hpv] at c4
 have hpl:=hok.par.1
 have HP:=hide hp
 have HPV:=hide hpv
 have HBK:=hide hb
 have HLP:Hid (lotP l=[l.id,l.goods,l.expiry,l.place,l.free,l.held,l.shipped,l.scrapped,l.par.length]++(if l.par.length=0 then [l.got] else (isS parB l.par).flatMap (fun p=>[p.1,p.2]))):=rfl
 obtain ⟨n,HN⟩:∃ n,Hid (n=l.par.length):=⟨_,rfl⟩
 rw [← HN.out] at c4 hpl HLP
 have k1:=hok.id
 have k2:=hok.goods
 have k3:=hok.expiry
 have k4:=hok.place
 have k5:=hok.sum
 have k6:=hok.got
 clear hb hp hpv hok
 go_enter Tryz.func66,Tryz.ntmps66
 go_wp2_with fail
 go_region_held3 (fun w'=>w'.cell? ⟨b,0,none⟩=some (.int .i64 (l.id:Int))∧w'.cell? ⟨b,1,none⟩=some (.int .i64 (l.goods:Int))∧w'.cell? ⟨b,2,none⟩=some (.int .i64 (l.expiry:Int))∧w'.cell? ⟨b,3,none⟩=some (.int .i64 (l.place:Int))∧w'.cell? ⟨b,6,none⟩=some (.int .i64 (l.free:Int))∧w'.cell? ⟨b,7,none⟩=some (.int .i64 (l.held:Int))∧w'.cell? ⟨b,8,none⟩=some (.int .i64 (l.shipped:Int))∧w'.cell? ⟨b,9,none⟩=some (.int .i64 (l.scrapped:Int))) (go_keep) (fail)
 have HB1:Hid (Below w.heap.size w (w.alloc (.cells #[.int .i64 (l.id:Int),.int .i64 (l.goods:Int),.int .i64 (l.expiry:Int),.int .i64 (l.place:Int),.int .i64 (l.free:Int),.int .i64 (l.held:Int),.int .i64 (l.shipped:Int),.int .i64 (l.scrapped:Int)] 2)).drew):=(al1 w _).drew
 obtain ⟨A8,HA8⟩:∃ A:List Nat,Hid (A=[l.id,l.goods,l.expiry,l.place,l.free,l.held,l.shipped,l.scrapped]):=⟨_,rfl⟩
 have HO1:Hid ((w.alloc (.cells #[.int .i64 (l.id:Int),.int .i64 (l.goods:Int),.int .i64 (l.expiry:Int),.int .i64 (l.place:Int),.int .i64 (l.free:Int),.int .i64 (l.held:Int),.int .i64 (l.shipped:Int),.int .i64 (l.scrapped:Int)] 2)).drew.ownsRow w.heap.size 2 1 (.slice (some ⟨w.heap.size,0,none⟩) 8 8) 8 (I A8)):=by
  rw [HA8.out]
  refine ⟨by simp [I],Or.inr ⟨w.heap.size,8,#[.int .i64 (l.id:Int),.int .i64 (l.goods:Int),.int .i64 (l.expiry:Int),.int .i64 (l.place:Int),.int .i64 (l.free:Int),.int .i64 (l.held:Int),.int .i64 (l.shipped:Int),.int .i64 (l.scrapped:Int)],rfl,Nat.le_refl _,heap_alloc_new w _,?_⟩⟩
  simp [I]
  unfold maxLen;omega
 obtain ⟨w1,HW1⟩:∃ w1,Hid (w1=(w.alloc (.cells #[.int .i64 (l.id:Int),.int .i64 (l.goods:Int),.int .i64 (l.expiry:Int),.int .i64 (l.place:Int),.int .i64 (l.free:Int),.int .i64 (l.held:Int),.int .i64 (l.shipped:Int),.int .i64 (l.scrapped:Int)] 2)).drew):=⟨_,rfl⟩
 rw [← HW1.out] at HB1 HO1 ⊢
 clear HW1
 have d4:=(HB1.out.cell (p:=⟨b,4,none⟩) (by exact hblt)).trans c4
 have d5:=(HB1.out.cell (p:=⟨b,5,none⟩) (by exact hblt)).trans c5
 clear c0 c1 c2 c3 c4 c5 c6 c7 c8 c9
 go_wp2_with (at_builtin;refine wpList_append_own _ rfl _ _ 54 rfl w.heap.size 2 i0 (.int .i64 0) 1 8 tUIs hi hz0 hz1 hz2 rfl (by decide) _ 8 (I A8) rfl (HO1.out.alloc _) ⟨w1.heap.size,0,none⟩ 1 1 [.int .i64 (n:Int)] rfl rfl ?a1 ?a2 ?a3 ?a4 ?a5 ?_)
 case a1=>exact one_new _ _ _
 case a2=>intro u hu;simp at hu;subst hu;rfl
 case a3=>unfold maxLen;omega
 case a4=>omega
 case a5=>have:=HB1.out.size;simp;omega
 intro v2 w2 ho2 hg2 hn2
 have HB2:Hid (Below w.heap.size w w2):=(HB1.out.alloc HB1.out.size _).grown hg2 (by have:=HB1.out.size;simp;omega) (fun q hq=>(HO1.out.lt q hq).1)
 have HO2:Hid (w2.ownsRow w.heap.size 2 1 v2 9 (I (A8++[n]))):=by
  unfold Hid
  have e:I (A8++[n])=I A8++[.int .i64 (n:Int)]:=by simp [I]
  rw [e];exact ho2
 obtain ⟨g2,cap2,hv2,_,_⟩:=own_someS ho2 (by omega)
 subst hv2
 have e4:=(HB2.out.cell (p:=⟨b,4,none⟩) (by exact hblt)).trans (by
  have:=HBK.out;show w.cell? ⟨b,4,none⟩=some (.slice pa n pcap);rw [blk_cell this,HN.out,← HPV.out];rfl)
 have e5:=(HB2.out.cell (p:=⟨b,5,none⟩) (by exact hblt)).trans (by
  have:=HBK.out;show w.cell? ⟨b,5,none⟩=some (.int .i64 (l.got:Int));rw [blk_cell this];rfl)
 clear ho2 hg2 hn2 HB1 HO1 d4 d5
 by_cases hn0:n=0
 ·subst hn0
  rw [if_pos rfl] at HLP
  go_wp2_with (at_builtin;refine wpList_append_own _ rfl _ _ 54 rfl w.heap.size 2 i0 (.int .i64 0) 1 8 tUIs hi hz0 hz1 hz2 rfl (by decide) _ 9 (I (A8++[0])) rfl (HO2.out.alloc _) ⟨w2.heap.size,0,none⟩ 1 1 [.int .i64 (l.got:Int)] rfl rfl ?b1 ?b2 ?b3 ?b4 ?b5 ?_)
  case b1=>exact one_new _ _ _
  case b2=>intro u hu;simp at hu;subst hu;rfl
  case b3=>unfold maxLen;omega
  case b4=>omega
  case b5=>have:=HB2.out.size;simp;omega
  intro v3 w3 ho3 hg3 hn3
  have HB3:Hid (Below w.heap.size w w3):=(HB2.out.alloc HB2.out.size _).grown hg3 (by have:=HB2.out.size;simp;omega) (fun q hq=>(HO2.out.lt q hq).1)
  have HE:Hid ((lotP l).length=10∧I (lotP l)=I (A8++[0])++[.int .i64 (l.got:Int)]):=by
   unfold Hid;rw [HLP.out,HA8.out];exact ⟨rfl,by simp [I]⟩
  have HO3:=hide ho3
  obtain ⟨g3,cap3,hv3,_,_⟩:=own_someS ho3 (by omega)
  subst hv3
  clear ho3 hg3 hn3
  go_wp2_with fail
  go_ret
  refine ⟨HB3.out,g3,cap3,by rw [HE.out.1];rfl,?_⟩
  rw [HE.out.1,HE.out.2];exact HO3.out
 ·rw [if_neg hn0] at HLP
  obtain ⟨q,qcap,cs,hq1,hq2,hq3⟩:=(HP.out.congr (w':=w2) (fun q hq=>by obtain ⟨cs,h3⟩:=HP.out.blk hq;exact HB2.out.block q (blk_lt h3))).resolve_left (fun h=>hn0 (by rw [HN.out,h.2];rfl))
  have HCL:=hide (clonePar_any (cap:=qcap) (by rw [← HN.out];exact hpl) hq2 hq3)
  rw [← hq1] at HCL
  have hpe:pv=.slice pa n pcap:=by rw [HPV.out,HN.out]
  rw [hpe] at HCL
  rw [← HN.out] at HCL
  clear hq1 hq2 hq3 hpe
  go_wp2_with (go_at_call 99;refine (HCL.out).mono ?_;rintro e w3 ⟨hb3,v3,rfl,ho3⟩)
  have HSO:=hide (sort_parent (lt:=parB) entP pcmp_any parC_lt (l:=l.par) (by rw [← HN.out];exact ho3) (by rw [← HN.out];omega))
  rw [← HN.out] at HSO
  have HB3:Hid (Below w.heap.size w w3):=HB2.out.trans (hb3.mono HB2.out.size)
  have HO3:=hide (own_below HO2.out hb3)
  have HV:Hid (∀ k,v3.ownBlock=some k→w2.heap.size≤k):=fun k hk=>(ho3.lt k hk).1
  obtain ⟨va,vcap,hv3⟩:=own_shapeS ho3
  subst hv3
  clear hb3 ho3 HCL e4 e5
  go_wp2_with (go_at_call 100;refine (HSO.out).mono ?_;rintro e w4 ⟨rfl,hk4,ho4⟩)
  obtain ⟨P,HPE⟩:∃ P,Hid (P=isS parB l.par):=⟨_,rfl⟩
  have HPL:Hid (n=P.length):=by unfold Hid;rw [HPE.out,isS,isK_len];exact HN.out
  rw [← HPE.out] at ho4
  rw [← HPE.out] at HLP
  have HB4:Hid (Below w.heap.size w w4):=⟨hk4.os.trans HB3.out.os,hk4.tape.trans HB3.out.tape,hk4.output.trans HB3.out.output,Nat.le_trans HB3.out.size hk4.size,fun k hk=>(hk4.block k (Nat.lt_of_lt_of_le hk HB3.out.size) (fun e=>by have:=HV.out k e;have:=HB2.out.size;omega)).trans (HB3.out.block k hk)⟩
  have HO4:Hid (w4.ownsRow w.heap.size 2 1 (.slice (some ⟨g2,0,none⟩) 9 cap2) 9 (I (A8++[n]))):=own_congr HO3.out (fun k hk=>by
   obtain ⟨cs,hcs⟩:=own_ty HO3.out hk
   exact hk4.block k (blk_lt hcs) (fun e=>by have:=HV.out k e;have h2:=(HO2.out.lt k hk).2;omega))
  have HP4:=hide ho4
  clear hk4 ho4 HO3 HB3 HB2 HO2 HV HSO
  go_wp2_with fail
  go_loopw [3,6,70] (fun nn _ ii wr=>∃ (k g c:Nat),ii=.int .i64 k∧k≤n∧nn=.slice (some ⟨g,0,none⟩) (9+k * 2) c∧wr.ownsRow w.heap.size 2 1 (.slice (some ⟨g,0,none⟩) (9+k * 2) c) (9+k * 2) (I (A8++[n]++(P.take k).flatMap (fun p=>[p.1,p.2])))∧(∃ base,wr.ownsRow base 156 2 (.slice va n vcap) n (lflat P))∧Below w.heap.size w wr) (fun _ _ ii _=>n - (intOf ii).toNat)
  case atStart=>exact ⟨0,g2,cap2,rfl,by omega,rfl,by simpa using HO4.out,⟨_,HP4.out⟩,HB4.out⟩
  case round =>
   clear HO4 HP4 HB4
   obtain ⟨k,g,c,rfl,hk,rfl,hown,⟨base,hpo⟩,hb⟩:=hrel
   by_cases hlt:k<n
   ·obtain ⟨G,rfl,hGlt,g1,g2⟩:=pairs_cells_parent hpo k (by rw [← HPL.out];exact hlt) HPL.out
    have HT:Hid ((P.take (k+1)).flatMap (fun p=>[p.1,p.2])=(P.take k).flatMap (fun p=>[p.1,p.2])++[(P.getD k (0,0)).1,(P.getD k (0,0)).2]):=by
     unfold Hid;rw [take_at (d:=(0,0)) (by rw [← HPL.out];exact hlt),List.flatMap_append];simp
    generalize P.getD k (0,0)=x at *
    obtain ⟨x1,x2⟩:=x
    simp only at g1 g2 HT
    have hB:=al1 wr (.cells #[.int .i64 (x1:Int),.int .i64 (x2:Int)] 156)
    have HON:=hide (own_below hown hB)
    have HPO:=hide (own_below hpo hB)
    have HBB:=hide (hb.trans (hB.mono hb.size))
    have hwz:=hb.size
    clear hown hb hB hpo
    go_wp2_with (at_builtin;refine wpList_append_own _ rfl _ _ 54 rfl w.heap.size 2 i0 (.int .i64 0) 1 8 tUIs hi hz0 hz1 hz2 rfl (by decide) _ (9+k * 2) (I (A8++[n]++(P.take k).flatMap (fun p=>[p.1,p.2]))) rfl (HON.out.alloc _) ⟨wr.heap.size+1,0,none⟩ 2 2 [.int .i64 (x1:Int),.int .i64 (x2:Int)] rfl rfl ?c1 ?c2 ?c3 ?c4 ?c5 ?_)
    case c1=>exact news_lit _ _ _ _ (by simp)
    case c2=>intro u hu;simp at hu;rcases hu with rfl | rfl <;> rfl
    case c3=>unfold maxLen;omega
    case c4=>omega
    case c5=>simp;omega
    intro v5 w5 ho5 hg5 hn5
    obtain ⟨g5,cap5,hv5,_,_⟩:=own_someS ho5 (by omega)
    subst hv5
    have HO5:Hid (w5.ownsRow w.heap.size 2 1 (.slice (some ⟨g5,0,none⟩) (9+(k+1) * 2) cap5) (9+(k+1) * 2) (I (A8++[n]++(P.take (k+1)).flatMap (fun p=>[p.1,p.2])))):=by
     unfold Hid
     have e:I (A8++[n]++(P.take (k+1)).flatMap (fun p=>[p.1,p.2]))=I (A8++[n]++(P.take k).flatMap (fun p=>[p.1,p.2]))++[.int .i64 (x1:Int),.int .i64 (x2:Int)]:=by rw [HT.out];simp [I]
     have e0:A8++n :: (P.take k).flatMap (fun p=>[p.1,p.2])=A8++[n]++(P.take k).flatMap (fun p=>[p.1,p.2]):=by simp
     rw [e0] at ho5
     rw [e,show 9+(k+1) * 2=9+k * 2+2 by omega];exact ho5
    have HB5:Hid (Below w.heap.size w w5):=(HBB.out.alloc HBB.out.size _).grown hg5 (by have:=HBB.out.size;simp at *;omega) (fun q hq=>(HON.out.lt q hq).1)
    have HP5:Hid (w5.ownsRow base 156 2 (.slice (some ⟨G,0,none⟩) n vcap) n (lflat P)):=by
     refine own_congr (HPO.out.alloc (.cells #[.int .i64 (x1:Int),.int .i64 (x2:Int)] 2)) (fun q hq=>?_)
     obtain ⟨cs,hcs⟩:=own_ty (HPO.out.alloc (.cells #[.int .i64 (x1:Int),.int .i64 (x2:Int)] 2)) hq
     obtain ⟨ds,hds⟩:=own_ty (HON.out.alloc (.cells #[.int .i64 (x1:Int),.int .i64 (x2:Int)] 2)) (g:=g) rfl
     exact hg5.block q (blk_lt hcs) (fun e=>ty_ne hcs hds (by decide) (Option.some.inj e))
    rw [show 9+k * 2+2=9+(k+1) * 2 by omega]
    clear ho5 hg5 hn5 HON HPO HBB g1 g2
    go_wp2_with fail
    go_roundw
    case rel=>exact ⟨k+1,g5,cap5,by go_num,by omega,rfl,HO5.out,⟨base,HP5.out⟩,HB5.out⟩
    case measure=>simp [intOf];omega
   ·obtain rfl:k=n:=by omega
    have HE:Hid ((lotP l).length=9+k * 2∧I (lotP l)=I (A8++[k]++(P.take k).flatMap (fun p=>[p.1,p.2]))):=by
     unfold Hid
     have e1:P.take k=P:=by rw [HPL.out];exact List.take_length
     have e2:∀ Q:List (Nat × Nat),(Q.flatMap (fun p=>[p.1,p.2])).length=Q.length * 2:=by
      intro Q
      induction Q with
      | nil=>rfl
      | cons q Q ih=>simp only [List.flatMap_cons,List.length_append,List.length_cons,List.length_nil,ih];omega
     rw [HLP.out,HA8.out,e1]
     refine ⟨?_,by simp [I]⟩
     rw [List.length_append,e2,← HPL.out];rfl
    have HO:=hide hown
    clear hlt hown hpo
    go_wp2_with fail
    go_ret
    refine ⟨hb,g,c,by rw [HE.out.1];rfl,?_⟩
    rw [HE.out.1,HE.out.2];exact HO.out
end Go.Proofs.YtgcedalggnmooabGreatDoor
namespace Go.Proofs.YtgcedalggnmooabGreatDoor
open Go.RowKit
set_option maxHeartbeats 1600000 in
theorem told_each {w:World} {a:Option Addr} {cap:Nat} {bs:List Nat} {ls:List L} {l:List (Nat × Nat)} (h:w.ownsRow 0 163 2 (.slice a l.length cap) l.length (lineCells bs l)) (hl:l.length≤30) (hs:∀ p ∈ l,p.2≤2147483647) (hlo:LotsOK w bs ls) (hok:∀ x ∈ ls,L.Ok x) (hin:∀ p ∈ l,p.1<ls.length) :
  Calls Tryz.prog 69 #[.slice a l.length cap] w fun e w'=>Below w.heap.size w w'∧∃ g c,e=.returned (.slice (some ⟨g,0,none⟩) (toldQ ls l).length c)∧w'.ownsRow w.heap.size 2 1 (.slice (some ⟨g,0,none⟩) (toldQ ls l).length c) (toldQ ls l).length (I (toldQ ls l)):=by
 obtain ⟨i0,hi,hz0,hz1,hz2⟩:=info_parts info2
 have HC:=hide (fun k hk=>lines_cells h k hk)
 have HLO:=hide hlo
 have HOK:=hide hok
 have HIN:=hide hin
 have HS:=hide hs
 have HL0:Hid ((w.alloc (.cells #[.int .i64 (l.length:Int)] 2)).ownsRow w.heap.size 2 1 (.slice (some ⟨w.heap.size,0,none⟩) 1 1) 1 (I (l.length :: toldL ls (l.take 0)))):=World.ownsRow_lit w #[.int .i64 (l.length:Int)] 1 (Nat.le_refl _) (by unfold maxLen;omega) rfl
 clear h hlo hok hin hs
 go_enter Tryz.func69,Tryz.ntmps69
 go_wp2_with fail
 go_loopw [3,5,11] (fun nn _ ii wr=>∃ (k g c:Nat),ii=.int .i64 k∧k≤l.length∧nn=.slice (some ⟨g,0,none⟩) (1+k * 2) c∧wr.ownsRow w.heap.size 2 1 (.slice (some ⟨g,0,none⟩) (1+k * 2) c) (1+k * 2) (I (l.length :: toldL ls (l.take k)))∧Below w.heap.size w wr) (fun _ _ ii _=>l.length - (intOf ii).toNat)
 case atStart=>exact ⟨0,_,_,rfl,by omega,rfl,HL0.out,al1 w _⟩
 case round =>
  clear HL0
  obtain ⟨k,g,c,rfl,hk,rfl,hown,hb⟩:=hrel
  by_cases hlt:k<l.length
  ·obtain ⟨G,rfl,hGlt,g1,g2⟩:=HC.out k hlt
   have c1:=(hb.cell (p:=⟨G,k * 2,none⟩) (by exact hGlt)).trans g1
   have c2:=(hb.cell (p:=⟨G,k * 2+1,none⟩) (by exact hGlt)).trans g2
   have hpm:l.getD k (0,0) ∈ l:=by simp [List.getD_eq_getElem?_getD,hlt]
   have hc:=HIN.out _ hpm
   obtain ⟨pv,hcl⟩:=(HLO.out.below hb) _ hc
   have hok1:=HOK.out _ (mem_getD hc)
   have HT:Hid (toldL ls (l.take (k+1))=toldL ls (l.take k)++[(ls.getD (l.getD k (0,0)).1 L0).id,(l.getD k (0,0)).2]):=by
    have e:l.take (k+1)=l.take k++[l.getD k (0,0)]:=by
     rw [List.take_succ_eq_append_getElem hlt];simp [List.getD_eq_getElem?_getD,hlt]
    unfold Hid;rw [e,toldL_snoc]
   have hxb:(l.getD k (0,0)).2≤2147483647:=HS.out _ hpm
   have hid:=hok1.id
   have hc0:wr.cell? ⟨bs.getD (l.getD k (0,0)).1 0,0,none⟩=some (.int .i64 ((ls.getD (l.getD k (0,0)).1 L0).id:Int)):=by rw [blk_cell hcl];rfl
   have hblt:=blk_lt hcl
   generalize (l.getD k (0,0)).2=x at *
   generalize (ls.getD (l.getD k (0,0)).1 L0).id=id at *
   generalize bs.getD (l.getD k (0,0)).1 0=bk at *
   have hB:=al1 wr (.cells #[.pointer (some ⟨bk,0,none⟩),.int .i64 (x:Int)] 163)
   have hbox:=heap_alloc_new wr (.cells #[.pointer (some ⟨bk,0,none⟩),.int .i64 (x:Int)] 163)
   clear g1 g2 hcl hok1 hpm hc
   go_wp2_with fail
   have d0:(wr.alloc (.cells #[.pointer (some ⟨bk,0,none⟩),.int .i64 (x:Int)] 163)).cell? ⟨wr.heap.size,0,none⟩=some (.pointer (some ⟨bk,0,none⟩)):=by rw [blk_cell hbox];rfl
   have d1:(wr.alloc (.cells #[.pointer (some ⟨bk,0,none⟩),.int .i64 (x:Int)] 163)).cell? ⟨wr.heap.size,1,none⟩=some (.int .i64 (x:Int)):=by rw [blk_cell hbox];rfl
   have e0:(wr.alloc (.cells #[.pointer (some ⟨bk,0,none⟩),.int .i64 (x:Int)] 163)).cell? ⟨bk,0,none⟩=some (.int .i64 (id:Int)):=(hB.cell (by exact hblt)).trans hc0
   have hown1:=own_below hown hB
   have hbb:=hb.trans (hB.mono hb.size)
   have hszb:w.heap.size≤(wr.alloc (.cells #[.pointer (some ⟨bk,0,none⟩),.int .i64 (x:Int)] 163)).heap.size:=hbb.size
   generalize (wr.alloc (.cells #[.pointer (some ⟨bk,0,none⟩),.int .i64 (x:Int)] 163))=wb at *
   have hbl:Below wb.heap.size wb (wb.alloc (.cells #[.int .i64 (id:Int),.int .i64 (x:Int)] 2)).drew:=(al1 wb _).drew
   have hbk:(wb.alloc (.cells #[.int .i64 (id:Int),.int .i64 (x:Int)] 2)).drew.heap[wb.heap.size]?=some (.cells #[.int .i64 (id:Int),.int .i64 (x:Int)] 2 (0,0)):=heap_alloc_new wb _
   have hone:∀ u ∈ ([.int .i64 (id:Int),.int .i64 (x:Int)]:List Value),u.oneCell'=true:=by
    intro u hu;simp at hu;rcases hu with rfl | rfl <;> rfl
   have HBB:=hide hbb
   have HON:=hide hown1
   have HBL:=hide hbl
   clear hc0 c1 c2 hown hb hbox hB hbb
   go_region_law (refine step_append_lies _ rfl _ _ 54 rfl w.heap.size 2 i0 (.int .i64 0) 1 8 tUIs hi hz0 hz1 hz2 rfl (by decide) (.slice (some ⟨g,0,none⟩) (1+k * 2) c) (1+k * 2) (I (l.length :: toldL ls (l.take k))) rfl (own_below hown1 hbl) ⟨wb.heap.size,0,none⟩ 2 2 [.int .i64 (id:Int),.int .i64 (x:Int)] rfl rfl (World.news_of_block hbk) hone (by decide) (by unfold maxLen;omega) (by omega) (by simp;omega) (wb.heap.size+1) (by simp) ?_;intro g2 cap2 w2 hown2 hgrow hat hlt2)
   all_goals
    have e1:I (l.length :: toldL ls (l.take k))++[.int .i64 (id:Int),.int .i64 (x:Int)]=I (l.length :: toldL ls (l.take (k+1))):=by rw [HT.out];simp [I]
    rw [e1] at hown2
    have hbw:Below w.heap.size w w2:=(HBB.out.trans (HBL.out.mono HBB.out.size)).grown hgrow (by simp;omega) (fun q hq=>(HON.out.lt q hq).1)
    have HO2:=hide hown2
    have HBW:=hide hbw
    clear hown2 hgrow hat hlt2 hbw e1 hbl hbk hone hown1 d0 d1 e0
    go_wp2_with fail
    go_roundw
    case rel=>exact ⟨k+1,g2,cap2,by go_num,by omega,by rw [show 1+(k+1) * 2=1+k * 2+2 by omega],by rw [show 1+(k+1) * 2=1+k * 2+2 by omega];exact HO2.out,HBW.out⟩
    case measure=>simp [intOf];omega
  ·obtain rfl:k=l.length:=by omega
   rw [List.take_length] at hown
   have hlen:(toldQ ls l).length=1+l.length * 2:=by simp [toldQ,toldL_len];omega
   have HO:=hide hown
   have HLN:=hide hlen
   clear hlt hown hlen
   go_wp2_with fail
   go_ret
   exact ⟨hb,g,c,by rw [HLN.out];rfl,by rw [HLN.out];exact HO.out⟩
end Go.Proofs.YtgcedalggnmooabGreatDoor
