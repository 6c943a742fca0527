import Derived.Test.YtgcedalggnmooabGreatDoorR0X
import Derived.Test.YtgcedalggnmooabGreatDoorHlX
import Derived.Test.YtgcedalggnmooabGreatDoorHp1CX
import Derived.Handy
import Derived.Test.YtgcedalggnmooabGreatDoorR1X
set_option linter.unusedSimpArgs false
set_option linter.unusedVariables false
set_option maxRecDepth 100000
namespace Go.Proofs.YtgcedalggnmooabGreatDoor
theorem take_at {α:Type} {l:List α} {d:α} {k:Nat} (hk:k<l.length):l.take (k+1)=l.take k++[l.getD k d]:=by
 rw [List.take_succ_eq_append_getElem hk];simp [List.getD_eq_getElem?_getD,hk]
theorem len_of_sub {α:Type} [DecidableEq α]:∀ {l m:List α},l.Nodup→(∀ x ∈ l,x ∈ m)→l.length≤m.length
 | [],m,_,_=>by simp
 | x :: l,m,hn,hs=>by
  have hx:=List.nodup_cons.1 hn
  have hm:=hs x (by simp)
  have:=len_of_sub (l:=l) (m:=m.erase x) hx.2 (fun y hy=>(List.mem_erase_of_ne (fun e=>hx.1 (by rw [← e];exact hy))).2 (hs y (by simp [hy])))
  rw [List.length_erase_of_mem hm] at this
  have h0:=List.length_pos_of_mem hm
  rw [List.length_cons];omega
def swA (l:List (Nat × Nat)) (j:Nat):List (Nat × Nat):=(l.set (j+1) (l.getD j (0,0))).set j (l.getD (j+1) (0,0))
def bub (lt:Nat × Nat→Nat × Nat→Bool):Nat→List (Nat × Nat)→List (Nat × Nat)
 | 0,l=>l
 | j+1,l=>if lt (l.getD (j+1) (0,0)) (l.getD j (0,0))=true then bub lt j (swA l j) else l
def isK (lt:Nat × Nat→Nat × Nat→Bool) (l:List (Nat × Nat)):Nat→List (Nat × Nat)
 | 0=>l
 | k+1=>bub lt k (isK lt l k)
def isS (lt:Nat × Nat→Nat × Nat→Bool) (l:List (Nat × Nat)):List (Nat × Nat):=isK lt l l.length
def insV (lt:Nat × Nat→Nat × Nat→Bool) (x:Nat × Nat):List (Nat × Nat)→List (Nat × Nat)
 | []=>[x]
 | y :: r=>if lt x y=true then y :: insV lt x r else x :: y :: r
def rvK (lt:Nat × Nat→Nat × Nat→Bool) (l:List (Nat × Nat)):List (Nat × Nat):=l.foldl (fun rp x=>insV lt x rp) []
theorem swA_len (l:List (Nat × Nat)) (j:Nat):(swA l j).length=l.length:=by simp [swA]
theorem bub_len (lt:Nat × Nat→Nat × Nat→Bool):∀ (j:Nat) (l:List (Nat × Nat)),(bub lt j l).length=l.length
 | 0,l=>rfl
 | j+1,l=>by
  rw [bub];split
  ·rw [bub_len lt j,swA_len]
  ·rfl
theorem isK_len (lt:Nat × Nat→Nat × Nat→Bool) (l:List (Nat × Nat)):∀ k,(isK lt l k).length=l.length
 | 0=>rfl
 | k+1=>by rw [isK,bub_len,isK_len lt l k]
theorem insV_perm (lt:Nat × Nat→Nat × Nat→Bool) (x:Nat × Nat):∀ l,(insV lt x l).Perm (x :: l)
 | []=>List.Perm.refl _
 | y :: r=>by
  rw [insV];split
  ·exact ((insV_perm lt x r).cons y).trans (List.Perm.swap x y r)
  ·exact List.Perm.refl _
theorem insV_len (lt:Nat × Nat→Nat × Nat→Bool) (x:Nat × Nat) (l:List (Nat × Nat)):(insV lt x l).length=l.length+1:=(insV_perm lt x l).length_eq
theorem swA_at (a b:List (Nat × Nat)) (x y:Nat × Nat):swA (a++y :: x :: b) a.length=a++x :: y :: b:=by
 unfold swA
 have e1:(a++y :: x :: b).getD a.length (0,0)=y:=by simp [List.getD_eq_getElem?_getD]
 have e2:(a++y :: x :: b).getD (a.length+1) (0,0)=x:=by simp [List.getD_eq_getElem?_getD]
 rw [e1,e2]
 simp
theorem bub_ins (lt:Nat × Nat→Nat × Nat→Bool) (x:Nat × Nat):∀ (rp r:List (Nat × Nat)),bub lt rp.length (rp.reverse++x :: r)=(insV lt x rp).reverse++r
 | [],r=>by simp [bub,insV]
 | y :: rp,r=>by
  have e0:(y :: rp).reverse++x :: r=rp.reverse++y :: x :: r:=by simp
  have e1:(rp.reverse++y :: x :: r).getD (rp.length+1) (0,0)=x:=by simp [List.getD_eq_getElem?_getD,List.getElem?_append]
  have e2:(rp.reverse++y :: x :: r).getD rp.length (0,0)=y:=by simp [List.getD_eq_getElem?_getD,List.getElem?_append]
  rw [List.length_cons,bub,e0,e1,e2,insV]
  split
  ·have:=swA_at rp.reverse r x y
   rw [List.length_reverse] at this
   rw [this,bub_ins lt x rp (y :: r)]
   simp
  ·simp
theorem rvK_len (lt:Nat × Nat→Nat × Nat→Bool) (l:List (Nat × Nat)):(rvK lt l).length=l.length:=by
 have:∀ (l rp:List (Nat × Nat)),(l.foldl (fun rp x=>insV lt x rp) rp).length=rp.length+l.length:=by
  intro l
  induction l with
  | nil=>intro rp;simp
  | cons a l ih=>intro rp;rw [List.foldl_cons,ih,insV_len,List.length_cons];omega
 rw [rvK,this];simp
theorem isK_eq (lt:Nat × Nat→Nat × Nat→Bool) (l:List (Nat × Nat)):∀ k,k≤l.length→isK lt l k=(rvK lt (l.take k)).reverse++l.drop k
 | 0,_=>by simp [isK,rvK]
 | k+1,hk=>by
  have hlt:k<l.length:=by omega
  rw [isK,isK_eq lt l k (by omega),take_at (d:=(0,0)) hlt]
  have e1:l.drop k=l.getD k (0,0) :: l.drop (k+1):=by rw [List.drop_eq_getElem_cons hlt];simp [List.getD_eq_getElem?_getD,hlt]
  have e2:rvK lt (l.take k++[l.getD k (0,0)])=insV lt (l.getD k (0,0)) (rvK lt (l.take k)):=by simp [rvK,List.foldl_append]
  have e3:=bub_ins lt (l.getD k (0,0)) (rvK lt (l.take k)) (l.drop (k+1))
  rw [rvK_len,List.length_take,Nat.min_eq_left (by omega)] at e3
  rw [e1,e2,e3]
theorem isS_eq (lt:Nat × Nat→Nat × Nat→Bool) (l:List (Nat × Nat)):isS lt l=(rvK lt l).reverse:=by
 rw [isS,isK_eq lt l _ (Nat.le_refl _)];simp
theorem rvK_perm (lt:Nat × Nat→Nat × Nat→Bool) (l:List (Nat × Nat)):(rvK lt l).Perm l:=by
 have:∀ (l rp:List (Nat × Nat)),(l.foldl (fun rp x=>insV lt x rp) rp).Perm (l++rp):=by
  intro l
  induction l with
  | nil=>intro rp;exact List.Perm.refl _
  | cons a l ih =>
   intro rp
   rw [List.foldl_cons]
   exact (ih _).trans (((insV_perm lt a rp).append_left l).trans List.perm_middle)
 simpa [rvK] using this l []
theorem insV_rise (lt:Nat × Nat→Nat × Nat→Bool) (x:Nat × Nat) (has:∀ a b,lt a b=true→lt b a=false) (htr:∀ a b c,lt a b=false→lt b c=false→lt a c=false):∀ l:List (Nat × Nat),l.Pairwise (fun a b=>lt a b=false)→(insV lt x l).Pairwise (fun a b=>lt a b=false)
 | [],_=>by simp [insV]
 | y :: r,h=>by
  have hy:=List.pairwise_cons.1 h
  rw [insV];split
  ·rename_i hlt
   refine List.pairwise_cons.2 ⟨fun b hb=>?_,insV_rise lt x has htr r hy.2⟩
   rcases List.mem_cons.1 ((insV_perm lt x r).mem_iff.1 hb) with rfl | hb
   ·exact has _ _ hlt
   ·exact hy.1 b hb
  ·rename_i hlt
   have hxy:lt x y=false:=by simpa using hlt
   refine List.pairwise_cons.2 ⟨fun b hb=>?_,h⟩
   rcases List.mem_cons.1 hb with rfl | hb
   ·exact hxy
   ·exact htr _ _ _ hxy (hy.1 b hb)
theorem rvK_rise (lt:Nat × Nat→Nat × Nat→Bool) (has:∀ a b,lt a b=true→lt b a=false) (htr:∀ a b c,lt a b=false→lt b c=false→lt a c=false) (l:List (Nat × Nat)):(rvK lt l).Pairwise (fun a b=>lt a b=false):=by
 have:∀ (l rp:List (Nat × Nat)),rp.Pairwise (fun a b=>lt a b=false)→(l.foldl (fun rp x=>insV lt x rp) rp).Pairwise (fun a b=>lt a b=false):=by
  intro l
  induction l with
  | nil=>intro rp h;exact h
  | cons a l ih=>intro rp h;rw [List.foldl_cons];exact ih _ (insV_rise lt a has htr rp h)
 exact this l [] (by simp)
theorem lflat_set:∀ (l:List (Nat × Nat)) (j:Nat) (p:Nat × Nat),lflat (l.set j p)=((lflat l).set (j * 2) (.int .i64 (p.1:Int))).set (j * 2+1) (.int .i64 (p.2:Int))
 | [],j,p=>by simp [lflat]
 | q :: l,0,p=>rfl
 | q :: l,j+1,p=>by
  have e:(j+1) * 2=j * 2+2:=by omega
  rw [e]
  simp only [List.set_cons_succ,lflat,lflat_set l j p]
def prtB (a b:Nat × Nat):Bool:=decide (a.1<b.1) || (decide (a.1=b.1) && decide (a.2<b.2))
end Go.Proofs.YtgcedalggnmooabGreatDoor
namespace Go.Proofs.YtgcedalggnmooabGreatDoor
open Go.RowKit
theorem pairs_cells_parent {w:World} {base n:Nat} {a:Option Addr} {cap:Nat} {l:List (Nat × Nat)} (h:w.ownsRow base 156 2 (.slice a n cap) n (lflat l)) (k:Nat) (hk:k<l.length) (hn:n=l.length):∃ G,a=some ⟨G,0,none⟩∧G<w.heap.size∧w.cell? ⟨G,k * 2,none⟩=some (.int .i64 ((l.getD k (0,0)).1:Int))∧w.cell? ⟨G,k * 2+1,none⟩=some (.int .i64 ((l.getD k (0,0)).2:Int)):=by
 obtain ⟨G,cap',hv,_,hlt⟩:=own_someS h (by omega)
 cases hv
 have q:=lflat_at l k hk
 refine ⟨G,rfl,hlt,?_,?_⟩
 ·rw [h.cellAt (k * 2) (by omega)];exact q.1
 ·rw [h.cellAt (k * 2+1) (by omega)];exact q.2
set_option maxHeartbeats 3200000 in
theorem ins_parent {lt:Nat × Nat→Nat × Nat→Bool} {cf:Nat × Nat→Nat × Nat→Int} {G base:Nat} {v:Value} {l:List (Nat × Nat)} {w:World} (hent:∀ args w,(callFunc G args).run Tryz.prog w=.ok (.enter G args) w) (hcmp:∀ a b W x,Calls Tryz.prog G #[.agg #[.int .i64 (a.1:Int),.int .i64 (a.2:Int)],.agg #[.int .i64 (b.1:Int),.int .i64 (b.2:Int)]] (ext W x) fun e w'=>e=.returned (.int .i64 (cf a b))∧∃ x',w'=ext W x') (hlt:∀ a b,cf a b<0↔lt a b=true) (h:w.ownsRow base 156 2 v l.length (lflat l)) (hl:l.length≤12) :
  Calls Tryz.prog 139 #[v,.int .i64 0,.int .i64 (l.length:Int),.func (.func G) #[] #[]] w fun e w'=>e=.returned (.tuple #[])∧Kp (fun k=>v.ownBlock=some k) w w'∧w'.ownsRow base 156 2 v l.length (lflat (isS lt l)):=by
 obtain ⟨va,vcap,hv⟩:=own_shapeS h
 subst hv
 have HC:=hide hcmp
 have HLT:=hide hlt
 have HO:=hide h
 clear hcmp h hlt
 go_enter Tryz.func139,Tryz.ntmps139
 go_wp2_with fail
 go_loopw [8,9] (fun ii _ wr=>∃ k:Nat,ii=.int .i64 ((k:Int)+1)∧(k<l.length∨k=0)∧Kp (fun k=>(Value.slice va l.length vcap).ownBlock=some k) w wr∧wr.ownsRow base 156 2 (.slice va l.length vcap) l.length (lflat (isK lt l (k+1)))) (fun ii _ _=>l.length - (intOf ii).toNat)
 case atStart=>exact ⟨0,rfl,Or.inr rfl,Kp.refl _ _,HO.out⟩
 case round =>
  clear HO
  obtain ⟨k,rfl,hk,hkp,hown⟩:=hrel
  by_cases hlt:k+1<l.length
  ·have HK:=hide hkp
   have HO:=hide hown
   have hltz:((k:Int)+1<(l.length:Int)):=by omega
   clear hkp hown hk
   rename World=>wo
   go_wp2_with fail
   go_loopw [9] (fun jj w2=>∃ (j:Nat) (m:List (Nat × Nat)),jj=.int .i64 j∧j≤k+1∧m.length=l.length∧bub lt j m=isK lt l (k+2)∧Kp (fun k=>(Value.slice va l.length vcap).ownBlock=some k) wo w2∧w2.ownsRow base 156 2 (.slice va l.length vcap) l.length (lflat m)) (fun jj _=>(intOf jj).toNat)
   case atStart=>exact ⟨k+1,isK lt l (k+1),by go_num,by omega,isK_len lt l _,rfl,Kp.refl _ _,HO.out⟩
   case round =>
    clear HO
    obtain ⟨j,m,rfl,hj,hml,hbub,hkp2,hown2⟩:=hrel
    by_cases hj0:j=0
    ·subst hj0
     have HE:Hid (m=isK lt l (k+2)):=hbub
     rw [HE.out] at hown2
     have HO2:=hide hown2
     have HK2:=hide (HK.out.trans (hkp2.mono (fun k h=>Or.inl h)))
     clear hown2 hkp2 hbub HE hml HK
     go_wp2_with fail
     go_quiet (fail)
     go_wp2_with fail
     go_roundw
     case rel=>exact ⟨k+1,by go_num,by omega,HK2.out.after (below_drewN (Below.refl _ _) _),own_below HO2.out (below_drewN (Below.refl _ _) _)⟩
     case measure=>simp [intOf];omega
    ·obtain ⟨i,rfl⟩:∃ i,j=i+1:=⟨j - 1,by omega⟩
     have him:i+1<m.length:=by omega
     obtain ⟨G0,rfl,hGlt,g1,g2⟩:=pairs_cells_parent hown2 (i+1) (by omega) hml.symm
     obtain ⟨_,e0,_,g3,g4⟩:=pairs_cells_parent hown2 i (by omega) hml.symm
     cases e0
     generalize hA:m.getD (i+1) (0,0)=A at *
     generalize hB:m.getD i (0,0)=Bb at *
     have x1:∀ x,(ext wr x).cell? ⟨G0,(i+1) * 2,none⟩=some (.int .i64 (A.1:Int)):=fun x=>((ext_below wr x).cell (by exact hGlt)).trans g1
     have x2:∀ x,(ext wr x).cell? ⟨G0,(i+1) * 2+1,none⟩=some (.int .i64 (A.2:Int)):=fun x=>((ext_below wr x).cell (by exact hGlt)).trans g2
     have x3:∀ x,(ext wr x).cell? ⟨G0,i * 2,none⟩=some (.int .i64 (Bb.1:Int)):=fun x=>((ext_below wr x).cell (by exact hGlt)).trans g3
     have x4:∀ x,(ext wr x).cell? ⟨G0,i * 2+1,none⟩=some (.int .i64 (Bb.2:Int)):=fun x=>((ext_below wr x).cell (by exact hGlt)).trans g4
     have HCM:=fun x=>hide (HC.out A Bb wr x)
     go_wp2_with fail
     haveI hinh:Inhabited Ex:=⟨⟨0,#[]⟩⟩
     refine wp_region_ext (by kernel_rfl) (by kernel_rfl) ?_
     repeat (go_big_quiet_step (exact (HCM _).out))
     refine wpQuiet_nil ?_
     intro _ hw'
     obtain ⟨x,hw''⟩:=hw'
     subst hw''
     have hbx:=ext_below wr x
     generalize ext wr x=wx at *
     have HQ:=HLT.out A Bb
     have HU:Hid (bub lt (i+1) m=if lt A Bb=true then bub lt i (swA m i) else m):=by
      unfold Hid;rw [bub,hA,hB]
     clear x1 x2 x3 x4 HCM
     generalize cf A Bb=c at *
     cases hab:lt A Bb with
     | false =>
      rw [hab] at HQ HU
      have hc:0≤c:=by
       rcases Int.lt_or_le c 0 with h | h
       ·exact absurd (HQ.1 h) (by simp)
       ·exact h
      have HE:Hid (m=isK lt l (k+2)):=by unfold Hid;rw [← hbub,HU.out];simp
      have HO2:=hide (own_below hown2 hbx)
      rw [HE.out] at HO2
      have HK2:=hide ((HK.out.trans (hkp2.mono (fun k h=>Or.inl h))).after hbx)
      clear hown2 hkp2 hbub HE HQ HU g1 g2 g3 g4 hbx HK
      go_wp2_with fail
      go_roundw
      case rel=>exact ⟨k+1,by go_num,by omega,HK2.out,HO2.out⟩
      case measure=>simp [intOf];omega
     | true =>
      rw [hab] at HQ HU
      have hc:c<0:=HQ.2 rfl
      have hown3:=own_below hown2 hbx
      obtain ⟨cs,hcs⟩:=own_ty hown3 rfl
      have f1:=blk_free hcs ((i+1) * 2)
      have f2:=blk_free hcs ((i+1) * 2+1)
      have f3:=blk_free hcs (i * 2)
      have f4:=blk_free hcs (i * 2+1)
      have k1:=(hbx.cell (p:=⟨G0,(i+1) * 2,none⟩) (by exact hGlt)).trans g1
      have k2:=(hbx.cell (p:=⟨G0,(i+1) * 2+1,none⟩) (by exact hGlt)).trans g2
      have k3:=(hbx.cell (p:=⟨G0,i * 2,none⟩) (by exact hGlt)).trans g3
      have k4:=(hbx.cell (p:=⟨G0,i * 2+1,none⟩) (by exact hGlt)).trans g4
      have HO3:=hide hown3
      have HBX:=hide hbx
      have HKP:=hide hkp2
      have HBU:Hid (bub lt i (swA m i)=isK lt l (k+2)):=by unfold Hid;rw [← hbub,HU.out];simp
      clear hown2 hkp2 hbub HQ HU g1 g2 g3 g4 hbx hown3 hcs
      go_wp2_with fail
      go_region
      go_wp2_with fail
      go_roundw
      case rel =>
       refine ⟨i,swA m i,by go_num,by omega,by rw [swA_len];exact hml,HBU.out,?_,?_⟩
       ·have hZ:(Value.slice (some ⟨G0,0,none⟩) l.length vcap).ownBlock=some G0:=rfl
        exact (((((HKP.out.after HBX.out).setCell (p:=⟨G0,(i+1) * 2,none⟩) (Or.inl hZ) _).setCell (p:=⟨G0,(i+1) * 2+1,none⟩) (Or.inl hZ) _).setCell (p:=⟨G0,i * 2,none⟩) (Or.inl hZ) _).setCell (p:=⟨G0,i * 2+1,none⟩) (Or.inl hZ) _).after ((Below.refl _ _).drew)
       ·have r1:=(HO3.out.stored ((i+1) * 2) (.int .i64 (Bb.1:Int))).1
        have r2:=(r1.stored ((i+1) * 2+1) (.int .i64 (Bb.2:Int))).1
        have r3:=(r2.stored (i * 2) (.int .i64 (A.1:Int))).1
        have r4:=(r3.stored (i * 2+1) (.int .i64 (A.2:Int))).1
        have e:lflat (swA m i)=((((lflat m).set ((i+1) * 2) (.int .i64 (Bb.1:Int))).set ((i+1) * 2+1) (.int .i64 (Bb.2:Int))).set (i * 2) (.int .i64 (A.1:Int))).set (i * 2+1) (.int .i64 (A.2:Int)):=by
         unfold swA;rw [hA,hB,lflat_set,lflat_set]
        rw [e]
        exact own_below r4 ((Below.refl _ _).drew)
      case measure=>simp [intOf]
  ·have HE:Hid (isK lt l (k+1)=isS lt l):=by
    unfold Hid isS
    rcases hk with hk | rfl
    ·rw [show k+1=l.length by omega]
    ·rcases Nat.eq_zero_or_pos l.length with h0 | h0
     ·have:l=[]:=List.length_eq_zero_iff.1 h0
      subst this;rfl
     ·rw [show l.length=0+1 by omega]
   rw [HE.out] at hown
   have HO:=hide hown
   have HK:=hide hkp
   clear hown hkp hk HE
   go_wp2_with fail
   go_end0
   exact ⟨rfl,HK.out,HO.out⟩
end Go.Proofs.YtgcedalggnmooabGreatDoor
namespace Go.Proofs.YtgcedalggnmooabGreatDoor
open Go.RowKit
theorem pairs_cells_recall {w:World} {base n:Nat} {a:Option Addr} {cap:Nat} {l:List (Nat × Nat)} (h:w.ownsRow base 140 2 (.slice a n cap) n (lflat l)) (k:Nat) (hk:k<l.length) (hn:n=l.length):∃ G,a=some ⟨G,0,none⟩∧G<w.heap.size∧w.cell? ⟨G,k * 2,none⟩=some (.int .i64 ((l.getD k (0,0)).1:Int))∧w.cell? ⟨G,k * 2+1,none⟩=some (.int .i64 ((l.getD k (0,0)).2:Int)):=by
 obtain ⟨G,cap',hv,_,hlt⟩:=own_someS h (by omega)
 cases hv
 have q:=lflat_at l k hk
 refine ⟨G,rfl,hlt,?_,?_⟩
 ·rw [h.cellAt (k * 2) (by omega)];exact q.1
 ·rw [h.cellAt (k * 2+1) (by omega)];exact q.2
set_option maxHeartbeats 3200000 in
theorem ins_recall {lt:Nat × Nat→Nat × Nat→Bool} {cf:Nat × Nat→Nat × Nat→Int} {G base:Nat} {v:Value} {l:List (Nat × Nat)} {w:World} (hent:∀ args w,(callFunc G args).run Tryz.prog w=.ok (.enter G args) w) (hcmp:∀ a b W x,Calls Tryz.prog G #[.agg #[.int .i64 (a.1:Int),.int .i64 (a.2:Int)],.agg #[.int .i64 (b.1:Int),.int .i64 (b.2:Int)]] (ext W x) fun e w'=>e=.returned (.int .i64 (cf a b))∧∃ x',w'=ext W x') (hlt:∀ a b,cf a b<0↔lt a b=true) (h:w.ownsRow base 140 2 v l.length (lflat l)) (hl:l.length≤12) :
  Calls Tryz.prog 156 #[v,.int .i64 0,.int .i64 (l.length:Int),.func (.func G) #[] #[]] w fun e w'=>e=.returned (.tuple #[])∧Kp (fun k=>v.ownBlock=some k) w w'∧w'.ownsRow base 140 2 v l.length (lflat (isS lt l)):=by
 obtain ⟨va,vcap,hv⟩:=own_shapeS h
 subst hv
 have HC:=hide hcmp
 have HLT:=hide hlt
 have HO:=hide h
 clear hcmp h hlt
 go_enter Tryz.func156,Tryz.ntmps156
 go_wp2_with fail
 go_loopw [8,9] (fun ii _ wr=>∃ k:Nat,ii=.int .i64 ((k:Int)+1)∧(k<l.length∨k=0)∧Kp (fun k=>(Value.slice va l.length vcap).ownBlock=some k) w wr∧wr.ownsRow base 140 2 (.slice va l.length vcap) l.length (lflat (isK lt l (k+1)))) (fun ii _ _=>l.length - (intOf ii).toNat)
 case atStart=>exact ⟨0,rfl,Or.inr rfl,Kp.refl _ _,HO.out⟩
 case round =>
  clear HO
  obtain ⟨k,rfl,hk,hkp,hown⟩:=hrel
  by_cases hlt:k+1<l.length
  ·have HK:=hide hkp
   have HO:=hide hown
   have hltz:((k:Int)+1<(l.length:Int)):=by omega
   clear hkp hown hk
   rename World=>wo
   go_wp2_with fail
   go_loopw [9] (fun jj w2=>∃ (j:Nat) (m:List (Nat × Nat)),jj=.int .i64 j∧j≤k+1∧m.length=l.length∧bub lt j m=isK lt l (k+2)∧Kp (fun k=>(Value.slice va l.length vcap).ownBlock=some k) wo w2∧w2.ownsRow base 140 2 (.slice va l.length vcap) l.length (lflat m)) (fun jj _=>(intOf jj).toNat)
   case atStart=>exact ⟨k+1,isK lt l (k+1),by go_num,by omega,isK_len lt l _,rfl,Kp.refl _ _,HO.out⟩
   case round =>
    clear HO
    obtain ⟨j,m,rfl,hj,hml,hbub,hkp2,hown2⟩:=hrel
    by_cases hj0:j=0
    ·subst hj0
     have HE:Hid (m=isK lt l (k+2)):=hbub
     rw [HE.out] at hown2
     have HO2:=hide hown2
     have HK2:=hide (HK.out.trans (hkp2.mono (fun k h=>Or.inl h)))
     clear hown2 hkp2 hbub HE hml HK
     go_wp2_with fail
     go_quiet (fail)
     go_wp2_with fail
     go_roundw
     case rel=>exact ⟨k+1,by go_num,by omega,HK2.out.after (below_drewN (Below.refl _ _) _),own_below HO2.out (below_drewN (Below.refl _ _) _)⟩
     case measure=>simp [intOf];omega
    ·obtain ⟨i,rfl⟩:∃ i,j=i+1:=⟨j - 1,by omega⟩
     have him:i+1<m.length:=by omega
     obtain ⟨G0,rfl,hGlt,g1,g2⟩:=pairs_cells_recall hown2 (i+1) (by omega) hml.symm
     obtain ⟨_,e0,_,g3,g4⟩:=pairs_cells_recall hown2 i (by omega) hml.symm
     cases e0
     generalize hA:m.getD (i+1) (0,0)=A at *
     generalize hB:m.getD i (0,0)=Bb at *
     have x1:∀ x,(ext wr x).cell? ⟨G0,(i+1) * 2,none⟩=some (.int .i64 (A.1:Int)):=fun x=>((ext_below wr x).cell (by exact hGlt)).trans g1
     have x2:∀ x,(ext wr x).cell? ⟨G0,(i+1) * 2+1,none⟩=some (.int .i64 (A.2:Int)):=fun x=>((ext_below wr x).cell (by exact hGlt)).trans g2
     have x3:∀ x,(ext wr x).cell? ⟨G0,i * 2,none⟩=some (.int .i64 (Bb.1:Int)):=fun x=>((ext_below wr x).cell (by exact hGlt)).trans g3
     have x4:∀ x,(ext wr x).cell? ⟨G0,i * 2+1,none⟩=some (.int .i64 (Bb.2:Int)):=fun x=>((ext_below wr x).cell (by exact hGlt)).trans g4
     have HCM:=fun x=>hide (HC.out A Bb wr x)
     go_wp2_with fail
     haveI hinh:Inhabited Ex:=⟨⟨0,#[]⟩⟩
     refine wp_region_ext (by kernel_rfl) (by kernel_rfl) ?_
     repeat (go_big_quiet_step (exact (HCM _).out))
     refine wpQuiet_nil ?_
     intro _ hw'
     obtain ⟨x,hw''⟩:=hw'
     subst hw''
     have hbx:=ext_below wr x
     generalize ext wr x=wx at *
     have HQ:=HLT.out A Bb
     have HU:Hid (bub lt (i+1) m=if lt A Bb=true then bub lt i (swA m i) else m):=by
      unfold Hid;rw [bub,hA,hB]
     clear x1 x2 x3 x4 HCM
     generalize cf A Bb=c at *
     cases hab:lt A Bb with
     | false =>
      rw [hab] at HQ HU
      have hc:0≤c:=by
       rcases Int.lt_or_le c 0 with h | h
       ·exact absurd (HQ.1 h) (by simp)
       ·exact h
      have HE:Hid (m=isK lt l (k+2)):=by unfold Hid;rw [← hbub,HU.out];simp
      have HO2:=hide (own_below hown2 hbx)
      rw [HE.out] at HO2
      have HK2:=hide ((HK.out.trans (hkp2.mono (fun k h=>Or.inl h))).after hbx)
      clear hown2 hkp2 hbub HE HQ HU g1 g2 g3 g4 hbx HK
      go_wp2_with fail
      go_roundw
      case rel=>exact ⟨k+1,by go_num,by omega,HK2.out,HO2.out⟩
      case measure=>simp [intOf];omega
     | true =>
      rw [hab] at HQ HU
      have hc:c<0:=HQ.2 rfl
      have hown3:=own_below hown2 hbx
      obtain ⟨cs,hcs⟩:=own_ty hown3 rfl
      have f1:=blk_free hcs ((i+1) * 2)
      have f2:=blk_free hcs ((i+1) * 2+1)
      have f3:=blk_free hcs (i * 2)
      have f4:=blk_free hcs (i * 2+1)
      have k1:=(hbx.cell (p:=⟨G0,(i+1) * 2,none⟩) (by exact hGlt)).trans g1
      have k2:=(hbx.cell (p:=⟨G0,(i+1) * 2+1,none⟩) (by exact hGlt)).trans g2
      have k3:=(hbx.cell (p:=⟨G0,i * 2,none⟩) (by exact hGlt)).trans g3
      have k4:=(hbx.cell (p:=⟨G0,i * 2+1,none⟩) (by exact hGlt)).trans g4
      have HO3:=hide hown3
      have HBX:=hide hbx
      have HKP:=hide hkp2
      have HBU:Hid (bub lt i (swA m i)=isK lt l (k+2)):=by unfold Hid;rw [← hbub,HU.out];simp
      clear hown2 hkp2 hbub HQ HU g1 g2 g3 g4 hbx hown3 hcs
      go_wp2_with fail
      go_region
      go_wp2_with fail
      go_roundw
      case rel =>
       refine ⟨i,swA m i,by go_num,by omega,by rw [swA_len];exact hml,HBU.out,?_,?_⟩
       ·have hZ:(Value.slice (some ⟨G0,0,none⟩) l.length vcap).ownBlock=some G0:=rfl
        exact (((((HKP.out.after HBX.out).setCell (p:=⟨G0,(i+1) * 2,none⟩) (Or.inl hZ) _).setCell (p:=⟨G0,(i+1) * 2+1,none⟩) (Or.inl hZ) _).setCell (p:=⟨G0,i * 2,none⟩) (Or.inl hZ) _).setCell (p:=⟨G0,i * 2+1,none⟩) (Or.inl hZ) _).after ((Below.refl _ _).drew)
       ·have r1:=(HO3.out.stored ((i+1) * 2) (.int .i64 (Bb.1:Int))).1
        have r2:=(r1.stored ((i+1) * 2+1) (.int .i64 (Bb.2:Int))).1
        have r3:=(r2.stored (i * 2) (.int .i64 (A.1:Int))).1
        have r4:=(r3.stored (i * 2+1) (.int .i64 (A.2:Int))).1
        have e:lflat (swA m i)=((((lflat m).set ((i+1) * 2) (.int .i64 (Bb.1:Int))).set ((i+1) * 2+1) (.int .i64 (Bb.2:Int))).set (i * 2) (.int .i64 (A.1:Int))).set (i * 2+1) (.int .i64 (A.2:Int)):=by
         unfold swA;rw [hA,hB,lflat_set,lflat_set]
        rw [e]
        exact own_below r4 ((Below.refl _ _).drew)
      case measure=>simp [intOf]
  ·have HE:Hid (isK lt l (k+1)=isS lt l):=by
    unfold Hid isS
    rcases hk with hk | rfl
    ·rw [show k+1=l.length by omega]
    ·rcases Nat.eq_zero_or_pos l.length with h0 | h0
     ·have:l=[]:=List.length_eq_zero_iff.1 h0
      subst this;rfl
     ·rw [show l.length=0+1 by omega]
   rw [HE.out] at hown
   have HO:=hide hown
   have HK:=hide hkp
   clear hown hkp hk HE
   go_wp2_with fail
   go_end0
   exact ⟨rfl,HK.out,HO.out⟩
end Go.Proofs.YtgcedalggnmooabGreatDoor
