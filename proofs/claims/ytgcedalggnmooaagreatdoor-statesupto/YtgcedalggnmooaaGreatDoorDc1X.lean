import Derived.Test.YtgcedalggnmooaaGreatDoorR0X
import Derived.Test.YtgcedalggnmooaaGreatDoorOd1X
import Derived.Test.YtgcedalggnmooaaGreatDoorOrdX
set_option linter.unusedSimpArgs false
set_option linter.unusedVariables false
set_option maxRecDepth 100000
namespace Go.Proofs.YtgcedalggnmooaaGreatDoor
open Go.RowKit
def rix (rcs:List (Nat × Nat)) (a m:Nat):Nat:=rcs.findIdx (fun p=>p == (a,m))
def rixV (rcs:List (Nat × Nat)) (a m:Nat):Int:=if rix rcs a m<rcs.length then (rix rcs a m:Int) else -1
theorem rix_has {rcs:List (Nat × Nat)} {a m:Nat}:rix rcs a m<rcs.length↔rcs.contains (a,m)=true:=by
 unfold rix
 rw [List.findIdx_lt_length,List.contains_iff_mem]
 constructor
 ·rintro ⟨x,hx,he⟩;rw [beq_iff_eq] at he;rw [← he];exact hx
 ·intro h;exact ⟨_,h,by simp⟩
theorem rix_hit {rcs:List (Nat × Nat)} {a m k:Nat} (hk:k<rcs.length) (hb:∀ j,j<k→rcs.getD j (0,0)≠(a,m)) (hh:rcs.getD k (0,0)=(a,m)):rix rcs a m=k:=by
 unfold rix
 rw [List.findIdx_eq hk]
 simp only [List.getD_eq_getElem?_getD,List.getElem?_eq_getElem hk,Option.getD_some] at hh
 refine ⟨by rw [hh];simp,fun j hj=>?_⟩
 have:=hb j hj
 simp only [List.getD_eq_getElem?_getD,List.getElem?_eq_getElem (show j<rcs.length by omega),Option.getD_some] at this
 simpa using this
theorem rix_miss {rcs:List (Nat × Nat)} {a m:Nat} (hb:∀ j,j<rcs.length→rcs.getD j (0,0)≠(a,m)):¬ rix rcs a m<rcs.length:=by
 rw [rix_has];intro hc
 rw [List.contains_iff_mem] at hc
 obtain ⟨j,hj,e⟩:=List.getElem_of_mem hc
 exact hb j hj (by rw [List.getD_eq_getElem?_getD,List.getElem?_eq_getElem hj];exact e)
set_option maxHeartbeats 1600000 in
theorem recallIx_any {rcs:List (Nat × Nat)} {w:World} {R:Nat} {v:Value} {td:Nat} {rec:ByteArray} {fs:List Value} {ls:List L} {os:List O} {ro:Ro} (h:RV os rcs ro w R v td rec fs ls) (a m:Nat) :
  Calls Tryz.prog 116 #[.pointer (some ⟨R,0,none⟩),.int .i64 (a:Int),.int .i64 (m:Int)] w fun e w'=>e=.returned (.int .i64 (rixV rcs a m))∧w'=w:=by
 have c3:=h.c3
 obtain ⟨ra,cap,hv,hrow⟩:=h.rshape
 rw [hv] at c3
 have hrl:=h.rc.len
 clear h hv
 go_enter Tryz.func116,Tryz.ntmps116
 go_wp2_with fail
 go_loop [7] (fun ii=>∃ k:Nat,k≤rcs.length∧ii=.int .i64 k∧(∀ j,j<k→rcs.getD j (0,0)≠(a,m))) (fun ii=>rcs.length - (intOf ii).toNat)
 case atStart=>exact ⟨0,by omega,rfl,fun j h=>absurd h (by omega)⟩
 case round =>
  obtain ⟨k,hk,rfl,hne⟩:=hrel
  by_cases hlt:k<rcs.length
  ·obtain ⟨G,hG,hGlt,hcells⟩:=hrow (by omega)
   subst hG
   obtain ⟨k1,k2⟩:=hcells k hlt
   have HPair:Hid (rcs.getD k (0,0)=((rcs.getD k (0,0)).1,(rcs.getD k (0,0)).2)):=rfl
   obtain ⟨x,HX⟩:∃ x,Hid (x=(rcs.getD k (0,0)).1):=⟨_,rfl⟩
   obtain ⟨y,HY⟩:∃ y,Hid (y=(rcs.getD k (0,0)).2):=⟨_,rfl⟩
   rw [← HX.out] at k1
   rw [← HY.out] at k2
   rw [← HX.out,← HY.out] at HPair
   clear hcells hrow
   by_cases hx:x=a
   ·have hxb:=beqN_t hx
    by_cases hy:y=m
    ·have hyb:=beqN_t hy
     have HH:Hid (rixV rcs a m=(k:Int)):=by
      have:=rix_hit hlt hne (by rw [HPair.out,hx,hy])
      unfold Hid rixV;rw [this,if_pos hlt]
     clear hx hy
     go_wp2_with fail
     go_ret
     exact ⟨by rw [HH.out];rfl,rfl⟩
    ·have hyb:=beqN_f hy
     have HN:Hid (rcs.getD k (0,0)≠(a,m)):=by rw [HPair.out];intro e;exact hy (Prod.mk.inj e).2
     clear hx hy
     go_wp2_with fail
     go_round
     case rel =>
      refine ⟨k+1,by omega,by go_num,?_⟩
      intro j hj
      by_cases hjk:j=k
      ·subst hjk;exact HN.out
      ·exact hne j (by omega)
     case measure=>simp [intOf];omega
   ·have hxb:=beqN_f hx
    have HN:Hid (rcs.getD k (0,0)≠(a,m)):=by rw [HPair.out];intro e;exact hx (Prod.mk.inj e).1
    clear hx
    go_wp2_with fail
    go_round
    case rel =>
     refine ⟨k+1,by omega,by go_num,?_⟩
     intro j hj
     by_cases hjk:j=k
     ·subst hjk;exact HN.out
     ·exact hne j (by omega)
    case measure=>simp [intOf];omega
  ·obtain rfl:k=rcs.length:=by omega
   have HH:Hid (rixV rcs a m=-1):=by unfold Hid rixV;rw [if_neg (rix_miss hne)]
   clear hrow hlt
   go_wp2_with fail
   go_ret
   exact ⟨by rw [HH.out];rfl,rfl⟩
theorem ins_srt {out:List Nat} {x k:Nat} (hs:out.Pairwise (·<·)) (hx:x ∉ out) (hk:k≤out.length) (h1:∀ j,j<k→out.getD j 0<x) (h2:k=out.length∨¬ out.getD k 0<x):(out.take k++[x]++out.drop k).Pairwise (·<·):=by
 have hlow:∀ a ∈ out.take k,a<x:=fun a ha=>by
  obtain ⟨j,hj,e⟩:=List.getElem_of_mem ha
  rw [List.length_take] at hj
  have:=h1 j (by omega)
  rw [List.getD_eq_getElem?_getD,List.getElem?_eq_getElem (by omega)] at this
  rw [← e];simpa using this
 have hhigh:∀ a ∈ out.drop k,x<a:=fun a ha=>by
  rcases h2 with h2 | h2
  ·rw [h2,List.drop_length] at ha;simp at ha
  ·obtain ⟨j,hj,e⟩:=List.getElem_of_mem ha
   rw [List.length_drop] at hj
   rw [List.getElem_drop] at e
   have hkl:k<out.length:=by omega
   rw [List.getD_eq_getElem?_getD,List.getElem?_eq_getElem hkl] at h2
   simp only [Option.getD_some] at h2
   have hge:out[k]≤out[k+j]'(by omega):=by
    by_cases h0:j=0
    ·subst h0;exact Nat.le_refl _
    ·exact Nat.le_of_lt ((List.pairwise_iff_getElem.1 hs) k (k+j) hkl (by omega) (by omega))
   have hne:out[k+j]'(by omega)≠x:=fun e'=>hx (by rw [← e'];exact List.getElem_mem _)
   rw [← e];omega
 rw [List.append_assoc]
 refine List.pairwise_append.2 ⟨hs.sublist (List.take_sublist _ _),List.pairwise_append.2 ⟨by simp,hs.sublist (List.drop_sublist _ _),fun a ha b hb=>?_⟩,fun a ha b hb=>?_⟩
 ·simp at ha;subst ha;exact hhigh b hb
 ·rcases List.mem_append.1 hb with hb | hb
  ·simp at hb;subst hb;exact hlow a ha
  ·exact Nat.lt_trans (hlow a ha) (hhigh b hb)
theorem ins_perm {out:List Nat} {x k:Nat}:(out.take k++[x]++out.drop k).Perm (out++[x]):=by
 have h1:(out.take k++[x]++out.drop k).Perm (out.take k++out.drop k++[x]):=by
  rw [List.append_assoc,List.append_assoc]
  exact List.Perm.append_left _ (List.perm_append_comm)
 rw [List.take_append_drop] at h1;exact h1
end Go.Proofs.YtgcedalggnmooaaGreatDoor
namespace Go.Proofs.YtgcedalggnmooaaGreatDoor
open Go.RowKit
theorem I_app (a b:List Nat):I (a++b)=I a++I b:=by simp [I]
theorem I_one:∀ (ns:List Nat),∀ u ∈ I ns,u.oneCell'=true:=fun ns u hu=>by
 obtain ⟨n,_,rfl⟩:=List.mem_map.1 hu
 rfl
theorem ints_part {w:World} {base g cap:Nat} {ns:List Nat} (h:w.ownsRow base 3 1 (.slice (some ⟨g,0,none⟩) ns.length cap) ns.length (I ns)) (k m:Nat) (hk:k+m≤ns.length):∀ j u,(I ((ns.drop k).take m))[j]?=some u→w.cell? (Addr.add ⟨g,k,none⟩ j)=some u:=fun j u hj=>by
 have hjl:j<m:=by
  have:=(List.getElem?_eq_some_iff.1 hj).1
  rw [I_len,List.length_take,List.length_drop] at this;omega
 have hc:=ownInts_cell h (k+j) (by omega)
 have e:Addr.add ⟨g,k,none⟩ j=⟨g,k+j,none⟩:=by simp [Addr.add]
 rw [e,hc]
 rw [← hj]
 simp [I,List.getElem?_take,List.getElem?_drop,hjl,List.getD_eq_getElem?_getD,show k+j<ns.length by omega]
theorem ints_part' {w:World} {base g cap:Nat} {ns:List Nat} (h:w.ownsRow base 3 1 (.slice (some ⟨g,0,none⟩) ns.length cap) ns.length (I ns)) (m:Nat) (hm:m≤ns.length):∀ j u,(I (ns.take m))[j]?=some u→w.cell? (Addr.add ⟨g,0,none⟩ j)=some u:=by
 have:=ints_part h 0 m (by omega)
 simpa using this
set_option maxHeartbeats 3200000 in
theorem sorted_any {w:World} {base:Nat} {v:Value} {l:List Nat} (h:w.ownsRow base 3 1 v l.length (I l)) (hlen:l.length≤31) (hnd:l.Nodup) (hlb:∀ n ∈ l,n≤2147483647) :
  Calls Tryz.prog 117 #[v] w fun e w'=>Below w.heap.size w w'∧∃ (v':Value) (s:List Nat),e=.returned v'∧s.Perm l∧s.Pairwise (·<·)∧w'.ownsRow w.heap.size 3 1 v' s.length (I s):=by
 obtain ⟨i0,hi,hz0,hz1,hz2⟩:=info_parts info3
 obtain ⟨va,vc,hv⟩:=own_shape h
 have hG:0<l.length→∃ G,va=some ⟨G,0,none⟩∧G<w.heap.size:=fun hp=>by
  obtain ⟨g,c,hv',_,hlt⟩:=own_some h hp
  rw [hv] at hv';cases hv';exact ⟨g,rfl,hlt⟩
 rw [hv] at h
 rw [hv]
 have HO:=hide h
 have HND:=hide hnd
 have HLB:=hide hlb
 clear h hv hnd hlb
 go_enter Tryz.func117,Tryz.ntmps117
 go_wp2_with fail
 go_loopw [3,4,5,6] (fun ov ii _ _ wr=>∃ (k:Nat) (out:List Nat),k≤l.length∧ii=.int .i64 k∧out.Perm (l.take k)∧out.Pairwise (·<·)∧wr.ownsRow w.heap.size 3 1 ov out.length (I out)∧Below w.heap.size w wr) (fun _ ii _ _ _=>l.length - (intOf ii).toNat)
 case atStart=>exact ⟨0,[],by omega,rfl,by simp,List.Pairwise.nil,World.ownsRow_nil _ _ _ _,Below.refl _ _⟩
 case round =>
  obtain ⟨k,out,hk,rfl,hperm,hsrt,hown,hb⟩:=hrel
  by_cases hlt:k<l.length
  ·obtain ⟨G,hGe,hGlt⟩:=hG (by omega)
   subst hGe
   have hck:=(hb.cell (p:=⟨G,k,none⟩) hGlt).trans (ownInts_cell HO.out k hlt)
   have hol:out.length=k:=by rw [hperm.length_eq,List.length_take];omega
   have HOL:=hide hol
   have hol31:out.length≤31:=by omega
   clear hol
   have hxin:l.getD k 0 ∈ l:=by simp [List.getD_eq_getElem?_getD,hlt]
   have hxb:=HLB.out _ hxin
   have HX:Hid (l.getD k 0 ∉ out):=fun hm=>by
    have hm':=hperm.mem_iff.1 hm
    obtain ⟨j,hj,e⟩:=List.getElem_of_mem hm'
    rw [List.length_take] at hj
    rw [List.getElem_take] at e
    rw [List.getD_eq_getElem?_getD,List.getElem?_eq_getElem hlt] at e
    simp only [Option.getD_some] at e
    have:=(List.getElem_inj HND.out).1 e
    omega
   have HTk:Hid (l.take (k+1)=l.take k++[l.getD k 0]):=by
    unfold Hid;rw [List.take_succ_eq_append_getElem hlt];simp [List.getD_eq_getElem?_getD,hlt]
   have HOB:Hid (∀ j,j<out.length→out.getD j 0≤2147483647):=fun j hj=>by
    have hm:out.getD j 0 ∈ out:=by simp [List.getD_eq_getElem?_getD,hj]
    exact HLB.out _ (List.mem_of_mem_take (hperm.mem_iff.1 hm))
   have HPerm:=hide hperm
   have HSrt:=hide hsrt
   have HOW:=hide hown
   have HB:=hide hb
   have hwr:w.heap.size≤wr.heap.size:=hb.size
   obtain ⟨x,HXE⟩:∃ x,Hid (x=l.getD k 0):=⟨_,rfl⟩
   rw [← HXE.out] at hck hxb HX HTk
   rcases hown.2 with ⟨hv0,hn0⟩ | ⟨g,oc,cur,hv0,hgb,hcur,hle,_⟩
   ·have he:out=[]:=List.length_eq_zero_iff.1 hn0
    subst he
    subst hv0
    clear hown hb hperm hsrt hxin
    go_wp2_with fail
    refine wp_loop_rounds 1 ?_;rw [rounds_succ]
    go_wp2_with fail
    go_quiet (fail)
    go_wp2_with (at_builtin;refine wpList_append_own _ rfl _ _ 55 rfl (wr.drewN nq).heap.size 3 i0 (.int .i64 0) 1 8 tU48 hi hz0 hz1 hz2 rfl (by decide) (.slice none 0 0) 0 [] rfl (World.ownsRow_nil _ _ _ _) ⟨(wr.drewN nq).heap.size,0,none⟩ 1 1 [.int .i64 (x:Int)] rfl rfl ?na1 ?na2 ?na3 ?na4 ?na5 ?_)
    case na1=>exact one_new _ _ _
    case na2=>intro u hu;simp at hu;subst hu;rfl
    case na3=>unfold maxLen;omega
    case na4=>omega
    case na5=>simp
    intro n2 w4 ho2 hg2 _
    have hb4:Below wr.heap.size wr w4:=((below_drewN (Below.refl _ _) nq).alloc (Nat.le_refl _) _).grown hg2 (by simp) (fun q hq=>by simp [Value.ownBlock] at hq)
    have HB5:Hid (Below w.heap.size w w4):=HB.out.trans (hb4.mono HB.out.size)
    have HO5:Hid (w4.ownsRow w.heap.size 3 1 n2 [x].length (I [x])):=own_weaken ho2 HB.out.size
    have HP5:Hid ([x].Perm (l.take (k+1))):=by
     have h9:=HPerm.out
     unfold Hid;rw [HTk.out];exact h9.append_right [x]
    rcases ho2.2 with ⟨_,hn2⟩ | ⟨g2,c2,cur2,hn2,_,_,hc2,_⟩
    ·omega
    subst hn2
    clear ho2 hg2 hb4
    go_wp2_with fail
    go_roundw
    case rel=>exact ⟨k+1,[x],by omega,by go_num,HP5.out,by simp,HO5.out,HB5.out⟩
    case measure=>simp [intOf];omega
   ·subst hv0
    have hglt:g<wr.heap.size:=blk_lt hcur
    clear hown hb hperm hsrt hxin hcur
    go_wp2_with fail
    obtain ⟨wo,rfl⟩:∃ wo,wo=wr:=⟨wr,rfl⟩
    go_loopw [5] (fun kk w2=>∃ (j:Nat),j≤out.length∧kk=.int .i64 j∧(∀ i,i<j→out.getD i 0<x)∧Below wo.heap.size wo w2) (fun kk _=>out.length - (intOf kk).toNat)
    case atStart=>exact ⟨0,by omega,rfl,fun i h=>absurd h (by omega),Below.refl _ _⟩
    case round =>
     obtain ⟨j,hj,rfl,hlow,hbj⟩:=hrel
     have hckj:=(hbj.cell (p:=⟨G,k,none⟩) (by exact Nat.lt_of_lt_of_le hGlt hwr)).trans hck
     by_cases hjl:j<out.length
     ·have hcj:=(hbj.cell (p:=⟨g,j,none⟩) (by exact hglt)).trans (ownInts_cell HOW.out j hjl)
      have hob:=HOB.out j hjl
      obtain ⟨y,HYE⟩:∃ y,Hid (y=out.getD j 0):=⟨_,rfl⟩
      rw [← HYE.out] at hcj hob
      by_cases hyx:y<x
      ·have hyb:decide ((y:Int)<(x:Int))=true:=by simp;omega
       go_wp2_with fail
       go_quiet (fail)
       go_wp2_with fail
       go_roundw
       case rel =>
        refine ⟨j+1,by omega,by go_num,fun i hi=>?_,below_drewN hbj nq⟩
        by_cases hij:i=j
        ·subst hij;rw [← HYE.out];exact hyx
        ·exact hlow i (by omega)
       case measure=>simp [intOf];omega
      ·have hyb:decide ((y:Int)<(x:Int))=false:=by simp;omega
       have HN:=hide (ins_srt HSrt.out HX.out (k:=j) (by omega) hlow (Or.inr (by rw [← HYE.out];exact hyx)))
       go_wp2_with fail
       go_quiet (fail)
       have HOWq:Hid ((wr.drewN nq).ownsRow w.heap.size 3 1 (.slice (some ⟨g,0,none⟩) out.length oc) out.length (I out)):=own_below HOW.out (below_drewN hbj nq)
       go_wp2_with (at_builtin;refine wpList_append_own _ rfl _ _ 55 rfl (wr.drewN nq).heap.size 3 i0 (.int .i64 0) 1 8 tU48 hi hz0 hz1 hz2 rfl (by decide) (.slice none 0 0) 0 [] rfl (World.ownsRow_nil _ _ _ _) ⟨g,0,none⟩ j oc (I (out.take j)) rfl ?ua1 ?ua2 (I_one _) ?ua3 ?ua4 (Nat.le_refl _) ?_)
       case ua1=>rw [I_len,List.length_take];omega
       case ua2=>exact ints_part' HOWq.out j (by omega)
       case ua3=>unfold maxLen;omega
       case ua4=>omega
       intro n1 w3 ho1 hg1 _
       have hlt3:wr.heap.size≤w3.heap.size:=hg1.size
       have hck3:w3.cell? ⟨G,k,none⟩=some (.int .i64 (x:Int)):=(World.cell?_of_block (a:=⟨G,k,none⟩) (hg1.block G (by show G<wr.heap.size;have:=hbj.size;omega) (by simp [Value.ownBlock]))).trans hckj
       have HOW3:=hide (own_congr HOWq.out (fun q hq=>hg1.block q (by cases hq;show g<wr.heap.size;have:=hbj.size;omega) (by simp [Value.ownBlock])))
       have HB3:Hid (Below wr.heap.size wr w3):=⟨hg1.os,hg1.tape,hg1.output,hg1.size,fun q hq=>hg1.block q hq (by simp [Value.ownBlock])⟩
       obtain ⟨a1,c1,hn1⟩:=own_shape ho1
       subst hn1
       have HO1:=hide ho1
       clear ho1 hg1
       go_wp2_with (at_builtin;refine wpList_append_own _ rfl _ _ 55 rfl (wr.drewN nq).heap.size 3 i0 (.int .i64 0) 1 8 tU48 hi hz0 hz1 hz2 rfl (by decide) _ _ _ rfl (HO1.out.alloc _) ⟨w3.heap.size,0,none⟩ 1 1 [.int .i64 (x:Int)] rfl rfl ?ub1 ?ub2 ?ub3 ?ub4 ?ub5 ?_)
       case ub1=>exact one_new _ _ _
       case ub2=>intro u hu;simp at hu;subst hu;rfl
       case ub3=>unfold maxLen;omega
       case ub4=>omega
       case ub5=>simp;omega
       intro n2 w4 ho2 hg2 _
       have hlt4:w3.heap.size+1≤w4.heap.size:=by have:=hg2.size;simpa using this
       have hgw:g<wr.heap.size:=by have:=hbj.size;omega
       have HOW4:=hide (own_congr HOW3.out (fun q hq=>by
        cases hq
        refine (hg2.block g (by simp;omega) (fun e=>?_)).trans (Below.heap_alloc _ _ _ (by omega))
        have h5:wr.heap.size≤g:=(HO1.out.lt g e.symm).1
        omega))
       have HB4:Hid (Below wr.heap.size wr w4):=(HB3.out.alloc HB3.out.size _).grown hg2 (by simp;omega) (fun q hq=>(HO1.out.lt q hq).1)
       obtain ⟨a2,c2,hn2⟩:=own_shape ho2
       subst hn2
       have HO2:=hide ho2
       clear ho2 hg2 HO1
       by_cases hJc:oc=j
       ·have hze:out.length=j:=by omega
        have HDr:Hid (out.drop j=[]):=List.drop_eq_nil_of_le (by omega)
        go_wp2_with (at_builtin;refine wpList_append_own _ rfl _ _ 55 rfl (wr.drewN nq).heap.size 3 i0 (.int .i64 0) 1 8 tU48 hi hz0 hz1 hz2 rfl (by decide) _ _ _ rfl HO2.out ⟨g,0,none⟩ 0 0 [] rfl rfl ?uc1 ?uc2 ?uc3 ?uc4 ?uc5 ?_)
        case uc1=>intro j u hj;simp at hj
        case uc2=>intro u hu;simp at hu
        case uc3=>unfold maxLen;omega
        case uc4=>omega
        case uc5=>show wr.heap.size≤w4.heap.size;omega
        intro n3 w5 ho3 hg3 _
        have hb5:Below wr.heap.size wr w5:=HB4.out.grown hg3 HB4.out.size (fun q hq=>(HO2.out.lt q hq).1)
        have HB5:Hid (Below w.heap.size w w5):=(HB.out.trans (hbj.mono HB.out.size)).trans (hb5.mono (by have:=HB.out.size;have:=hbj.size;omega))
        have HO5:Hid (w5.ownsRow w.heap.size 3 1 n3 (out.take j++[x]++out.drop j).length (I (out.take j++[x]++out.drop j))):=by
         unfold Hid
         have e1:(out.take j++[x]++out.drop j).length=j+1:=by rw [HDr.out];simp;try omega
         have e2:I (out.take j++[x]++out.drop j)=I (out.take j)++[.int .i64 (x:Int)]:=by rw [HDr.out,List.append_nil,I_snoc]
         rw [e1,e2]
         exact own_weaken ho3 (by have:=HB.out.size;have:=hbj.size;omega)
        have HP5:Hid ((out.take j++[x]++out.drop j).Perm (l.take (k+1))):=by unfold Hid;rw [HTk.out];exact ins_perm.trans (HPerm.out.append_right _)
        clear ho3 hg3 hb5
        go_wp2_with fail
        go_roundw
        case rel=>exact ⟨k+1,_,by omega,by go_num,HP5.out,HN.out,HO5.out,HB5.out⟩
        case measure=>simp [intOf];omega
       ·go_wp2_with (at_builtin;refine wpList_append_own _ rfl _ _ 55 rfl (wr.drewN nq).heap.size 3 i0 (.int .i64 0) 1 8 tU48 hi hz0 hz1 hz2 rfl (by decide) _ _ _ rfl HO2.out ⟨g,j,none⟩ (out.length - j) (oc - j) (I (out.drop j)) rfl ?ud1 ?ud2 (I_one _) ?ud4 ?ud5 ?ud6 ?_)
        case ud1=>rw [I_len,List.length_drop];omega
        case ud2=>have h9:=ints_part HOW4.out j (out.length - j) (by omega);rw [List.take_of_length_le (by rw [List.length_drop];omega)] at h9;exact h9
        case ud4=>unfold maxLen;omega
        case ud5=>omega
        case ud6=>show wr.heap.size≤w4.heap.size;omega
        intro n3 w5 ho3 hg3 _
        have hb5:Below wr.heap.size wr w5:=HB4.out.grown hg3 HB4.out.size (fun q hq=>(HO2.out.lt q hq).1)
        have HB5:Hid (Below w.heap.size w w5):=(HB.out.trans (hbj.mono HB.out.size)).trans (hb5.mono (by have:=HB.out.size;have:=hbj.size;omega))
        have HO5:Hid (w5.ownsRow w.heap.size 3 1 n3 (out.take j++[x]++out.drop j).length (I (out.take j++[x]++out.drop j))):=by
         unfold Hid
         have e1:(out.take j++[x]++out.drop j).length=j+1+(out.length - j):=by simp;try omega
         have e2:I (out.take j++[x]++out.drop j)=I (out.take j)++[.int .i64 (x:Int)]++I (out.drop j):=by rw [I_app,I_snoc]
         rw [e1,e2]
         first
          | exact own_weaken ho3 (by have:=HB.out.size;have:=hbj.size;omega)
          | (simp at ho3 ⊢;exact own_weaken ho3 (by have:=HB.out.size;have:=hbj.size;omega))
        have HP5:Hid ((out.take j++[x]++out.drop j).Perm (l.take (k+1))):=by unfold Hid;rw [HTk.out];exact ins_perm.trans (HPerm.out.append_right _)
        clear ho3 hg3 hb5
        go_wp2_with fail
        go_roundw
        case rel=>exact ⟨k+1,_,by omega,by go_num,HP5.out,HN.out,HO5.out,HB5.out⟩
        case measure=>simp [intOf];omega
     ·obtain rfl:j=out.length:=by omega
      have HN:=hide (ins_srt HSrt.out HX.out (k:=out.length) (Nat.le_refl _) hlow (Or.inl rfl))
      clear hjl
      go_wp2_with fail
      go_quiet (fail)
      have HOWq:Hid ((wr.drewN nq).ownsRow w.heap.size 3 1 (.slice (some ⟨g,0,none⟩) out.length oc) out.length (I out)):=own_below HOW.out (below_drewN hbj nq)
      go_wp2_with (at_builtin;refine wpList_append_own _ rfl _ _ 55 rfl (wr.drewN nq).heap.size 3 i0 (.int .i64 0) 1 8 tU48 hi hz0 hz1 hz2 rfl (by decide) (.slice none 0 0) 0 [] rfl (World.ownsRow_nil _ _ _ _) ⟨g,0,none⟩ out.length oc (I (out.take out.length)) rfl ?va1 ?va2 (I_one _) ?va3 ?va4 (Nat.le_refl _) ?_)
      case va1=>rw [I_len,List.length_take];omega
      case va2=>exact ints_part' HOWq.out out.length (by omega)
      case va3=>unfold maxLen;omega
      case va4=>omega
      intro n1 w3 ho1 hg1 _
      have hlt3:wr.heap.size≤w3.heap.size:=hg1.size
      have hck3:w3.cell? ⟨G,k,none⟩=some (.int .i64 (x:Int)):=(World.cell?_of_block (a:=⟨G,k,none⟩) (hg1.block G (by show G<wr.heap.size;have:=hbj.size;omega) (by simp [Value.ownBlock]))).trans hckj
      have HOW3:=hide (own_congr HOWq.out (fun q hq=>hg1.block q (by cases hq;show g<wr.heap.size;have:=hbj.size;omega) (by simp [Value.ownBlock])))
      have HB3:Hid (Below wr.heap.size wr w3):=⟨hg1.os,hg1.tape,hg1.output,hg1.size,fun q hq=>hg1.block q hq (by simp [Value.ownBlock])⟩
      obtain ⟨a1,c1,hn1⟩:=own_shape ho1
      subst hn1
      have HO1:=hide ho1
      clear ho1 hg1
      go_wp2_with (at_builtin;refine wpList_append_own _ rfl _ _ 55 rfl (wr.drewN nq).heap.size 3 i0 (.int .i64 0) 1 8 tU48 hi hz0 hz1 hz2 rfl (by decide) _ _ _ rfl (HO1.out.alloc _) ⟨w3.heap.size,0,none⟩ 1 1 [.int .i64 (x:Int)] rfl rfl ?vb1 ?vb2 ?vb3 ?vb4 ?vb5 ?_)
      case vb1=>exact one_new _ _ _
      case vb2=>intro u hu;simp at hu;subst hu;rfl
      case vb3=>unfold maxLen;omega
      case vb4=>omega
      case vb5=>simp;omega
      intro n2 w4 ho2 hg2 _
      have hlt4:w3.heap.size+1≤w4.heap.size:=by have:=hg2.size;simpa using this
      have hgw:g<wr.heap.size:=by have:=hbj.size;omega
      have HOW4:=hide (own_congr HOW3.out (fun q hq=>by
       cases hq
       refine (hg2.block g (by simp;omega) (fun e=>?_)).trans (Below.heap_alloc _ _ _ (by omega))
       have h5:wr.heap.size≤g:=(HO1.out.lt g e.symm).1
       omega))
      have HB4:Hid (Below wr.heap.size wr w4):=(HB3.out.alloc HB3.out.size _).grown hg2 (by simp;omega) (fun q hq=>(HO1.out.lt q hq).1)
      obtain ⟨a2,c2,hn2⟩:=own_shape ho2
      subst hn2
      have HO2:=hide ho2
      clear ho2 hg2 HO1
      by_cases hJc:oc=out.length
      ·have hze:out.length=out.length:=by omega
       have HDr:Hid (out.drop out.length=[]):=List.drop_eq_nil_of_le (by omega)
       go_wp2_with (at_builtin;refine wpList_append_own _ rfl _ _ 55 rfl (wr.drewN nq).heap.size 3 i0 (.int .i64 0) 1 8 tU48 hi hz0 hz1 hz2 rfl (by decide) _ _ _ rfl HO2.out ⟨g,0,none⟩ 0 0 [] rfl rfl ?vc1 ?vc2 ?vc3 ?vc4 ?vc5 ?_)
       case vc3=>unfold maxLen;omega
       case vc4=>omega
       case vc5=>show wr.heap.size≤w4.heap.size;omega
       intro n3 w5 ho3 hg3 _
       have hb5:Below wr.heap.size wr w5:=HB4.out.grown hg3 HB4.out.size (fun q hq=>(HO2.out.lt q hq).1)
       have HB5:Hid (Below w.heap.size w w5):=(HB.out.trans (hbj.mono HB.out.size)).trans (hb5.mono (by have:=HB.out.size;have:=hbj.size;omega))
       have HO5:Hid (w5.ownsRow w.heap.size 3 1 n3 (out.take out.length++[x]++out.drop out.length).length (I (out.take out.length++[x]++out.drop out.length))):=by
        unfold Hid
        have e1:(out.take out.length++[x]++out.drop out.length).length=out.length+1:=by rw [HDr.out];simp;try omega
        have e2:I (out.take out.length++[x]++out.drop out.length)=I out++[.int .i64 (x:Int)]:=by rw [HDr.out,List.append_nil,I_snoc];simp
        rw [e1,e2]
        exact own_weaken ho3 (by have:=HB.out.size;have:=hbj.size;omega)
       have HP5:Hid ((out.take out.length++[x]++out.drop out.length).Perm (l.take (k+1))):=by unfold Hid;rw [HTk.out];exact ins_perm.trans (HPerm.out.append_right _)
       clear ho3 hg3 hb5
       go_wp2_with fail
       go_roundw
       case rel=>exact ⟨k+1,_,by omega,by go_num,HP5.out,HN.out,HO5.out,HB5.out⟩
       case measure=>simp [intOf];omega
      ·have HDr:Hid (out.drop out.length=[]):=List.drop_length
       go_wp2_with (at_builtin;refine wpList_append_own _ rfl _ _ 55 rfl (wr.drewN nq).heap.size 3 i0 (.int .i64 0) 1 8 tU48 hi hz0 hz1 hz2 rfl (by decide) _ _ _ rfl HO2.out ⟨g,out.length,none⟩ 0 (oc - out.length) [] rfl rfl ?vd1 ?vd2 ?vd3 ?vd4 ?vd5 ?_)
       case vd1=>intro j u hj;simp at hj
       case vd2=>intro u hu;simp at hu
       case vd3=>unfold maxLen;omega
       case vd4=>omega
       case vd5=>show wr.heap.size≤w4.heap.size;omega
       intro n3 w5 ho3 hg3 _
       have hb5:Below wr.heap.size wr w5:=HB4.out.grown hg3 HB4.out.size (fun q hq=>(HO2.out.lt q hq).1)
       have HB5:Hid (Below w.heap.size w w5):=(HB.out.trans (hbj.mono HB.out.size)).trans (hb5.mono (by have:=HB.out.size;have:=hbj.size;omega))
       have HO5:Hid (w5.ownsRow w.heap.size 3 1 n3 (out.take out.length++[x]++out.drop out.length).length (I (out.take out.length++[x]++out.drop out.length))):=by
        unfold Hid
        have e1:(out.take out.length++[x]++out.drop out.length).length=out.length+1:=by rw [HDr.out];simp;try omega
        have e2:I (out.take out.length++[x]++out.drop out.length)=I out++[.int .i64 (x:Int)]:=by rw [HDr.out,List.append_nil,I_snoc];simp
        rw [e1,e2]
        exact own_weaken ho3 (by have:=HB.out.size;have:=hbj.size;omega)
       have HP5:Hid ((out.take out.length++[x]++out.drop out.length).Perm (l.take (k+1))):=by unfold Hid;rw [HTk.out];exact ins_perm.trans (HPerm.out.append_right _)
       clear ho3 hg3 hb5
       go_wp2_with fail
       go_roundw
       case rel=>exact ⟨k+1,_,by omega,by go_num,HP5.out,HN.out,HO5.out,HB5.out⟩
       case measure=>simp [intOf];omega
  ·obtain rfl:k=l.length:=by omega
   have HPerm:Hid (out.Perm l):=by rw [List.take_length] at hperm;exact hperm
   obtain ⟨oa,oc,hov⟩:=own_shape hown
   subst hov
   have HOW:=hide hown
   have HS:=hide hsrt
   clear hG hlt hown hperm hsrt
   go_wp2_with fail
   go_ret
   exact ⟨hb,_,out,rfl,HPerm.out,HS.out,HOW.out⟩
end Go.Proofs.YtgcedalggnmooaaGreatDoor
