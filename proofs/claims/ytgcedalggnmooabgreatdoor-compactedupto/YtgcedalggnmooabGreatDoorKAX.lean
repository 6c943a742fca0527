import Derived.Test.YtgcedalggnmooabGreatDoorWireAX
import Derived.Test.YtgcedalggnmooabGreatDoorR0X
set_option linter.unusedSimpArgs false
set_option linter.unusedVariables false
set_option maxRecDepth 100000
namespace Go.Proofs.YtgcedalggnmooabGreatDoor
namespace Pl
theorem num_form:∀ (k n:Nat),n≤k→∃ p b,num n=p++[b]∧(∀ c ∈ p,128≤c.toNat)∧b.toNat<128∧val (num n)=n
 | 0,n,h=>⟨[],UInt8.ofNat n,by rw [num_lt (by omega)];rfl,by simp,by rw [UInt8.toNat_ofNat'];omega,by rw [num_lt (by omega)];simp only [val,UInt8.toNat_ofNat'];omega⟩
 | k+1,n,h=>by
  by_cases h1:n<128
  ·exact ⟨[],UInt8.ofNat n,by rw [num_lt h1];rfl,by simp,by rw [UInt8.toNat_ofNat'];omega,by rw [num_lt h1];simp only [val,UInt8.toNat_ofNat'];omega⟩
  ·obtain ⟨p,b,e,hp,hb,hv⟩:=num_form k (n / 128) (by omega)
   refine ⟨UInt8.ofNat (n % 128+128) :: p,b,by rw [num_ge h1,e];rfl,fun c hc=>?_,hb,?_⟩
   ·rcases List.mem_cons.1 hc with rfl | hc
    ·rw [UInt8.toNat_ofNat'];omega
    ·exact hp c hc
   ·rw [num_ge h1]
    simp only [val,hv,UInt8.toNat_ofNat']
    omega
theorem read_num (n:Nat) (h:n<9223372036854775808) (rest:List UInt8):fst (num n++rest)=n∧snd (num n++rest)=(num n).length:=by
 obtain ⟨p,b,e,hp,hb,hv⟩:=num_form n n (Nat.le_refl _)
 have hl:=num_len n h
 have hpl:(num n).length=p.length+1:=by rw [e];simp
 have htk:(num n++rest).take (p.length+1)=num n:=by
  rw [← hpl,List.take_left'];rfl
 have hg:∀ j,j<p.length→128≤((num n++rest).getD j 0).toNat:=fun j hj=>by
  rw [e,List.append_assoc,List.getD_eq_getElem?_getD,List.getElem?_append_left hj,List.getElem?_eq_getElem hj]
  exact hp _ (List.getElem_mem _)
 have hs:((num n++rest).getD p.length 0).toNat<128:=by
  rw [e,List.append_assoc,List.getD_eq_getElem?_getD,List.getElem?_append_right (Nat.le_refl _)]
  simpa using hb
 have q:=(first_stop (num n++rest) p.length (by omega) (by rw [List.length_append];omega) hg hs).1 (by rw [htk,hv])
 rw [htk,hv] at q
 exact ⟨q.1,by rw [q.2,hpl]⟩
theorem nums_told:∀ (ns:List Nat),(∀ n ∈ ns,n<9223372036854775808)→nums (toldB ns)=some ns
 | [],_=>rfl
 | n :: r,h=>by
  have e:toldB (n :: r)=num n++toldB r:=by simp [toldB]
  obtain ⟨h1,h2⟩:=read_num n (h n (by simp)) (toldB r)
  have hp:=num_len_pos n
  have hne:num n++toldB r≠[]:=fun q=>by
   rw [(List.append_eq_nil_iff.1 q).1] at hp;simp at hp
  rw [e,nums_cons hne (by rw [h2];omega),h1,h2,List.drop_left' rfl,nums_told r (fun x hx=>h x (by simp [hx]))]
  rfl
def cmdB (c:Nat) (ns:List Nat):List UInt8:=UInt8.ofNat c :: toldB ns
def dst (s:List Nat × Nat × Nat) (b:UInt8):List Nat × Nat × Nat :=
 if b.toNat<128 then (s.1++[if s.2.2<9 then s.2.1+b.toNat % 128 * 128 ^ s.2.2 else s.2.1],0,0) else (s.1,(if s.2.2<9 then s.2.1+b.toNat % 128 * 128 ^ s.2.2 else s.2.1),s.2.2+1)
def dec (l:List UInt8):List Nat × Nat × Nat:=l.foldl dst ([],0,0)
theorem dec_snoc (l:List UInt8) (b:UInt8):dec (l++[b])=dst (dec l) b:=by simp [dec]
theorem dec_lead (out:List Nat):∀ (k:Nat) (p:List UInt8),p.length=k→k≤9→(∀ c ∈ p,128≤c.toNat)→p.foldl dst (out,0,0)=(out,val p,p.length)
 | 0,p,hk,_,_=>by
  have:p=[]:=List.length_eq_zero_iff.1 hk
  subst this;rfl
 | k+1,p,hk,h9,hp=>by
  have hne:p≠[]:=fun e=>by subst e;simp at hk
  have e:p=p.dropLast++[p.getLast hne]:=(List.dropLast_concat_getLast hne).symm
  have hl:p.dropLast.length=k:=by rw [List.length_dropLast];omega
  have hb:=hp (p.getLast hne) (List.getLast_mem hne)
  have ih:=dec_lead out k p.dropLast hl (by omega) (fun c hc=>hp c ((List.dropLast_sublist _).mem hc))
  generalize p.getLast hne=b at *
  generalize p.dropLast=q at *
  rw [e,List.foldl_append,ih,val_snoc,List.length_append]
  simp only [List.foldl_cons,List.foldl_nil,dst]
  rw [if_neg (by omega),if_pos (by omega)]
  rfl
theorem dec_num (out:List Nat) (n:Nat) (h:n<9223372036854775808):(num n).foldl dst (out,0,0)=(out++[n],0,0):=by
 obtain ⟨p,b,e,hp,hb,hv⟩:=num_form n n (Nat.le_refl _)
 have hl:=num_len n h
 have hpl:(num n).length=p.length+1:=by rw [e];simp
 rw [e,List.foldl_append,dec_lead out p.length p rfl (by omega) hp]
 simp only [List.foldl_cons,List.foldl_nil,dst]
 rw [if_pos hb,if_pos (by omega)]
 rw [e,val_snoc] at hv
 rw [hv]
theorem dec_told':∀ (ns out:List Nat),(∀ n ∈ ns,n<9223372036854775808)→(toldB ns).foldl dst (out,0,0)=(out++ns,0,0)
 | [],out,_=>by simp [toldB]
 | n :: r,out,h=>by
  have e:toldB (n :: r)=num n++toldB r:=by simp [toldB]
  rw [e,List.foldl_append,dec_num out n (h n (by simp)),dec_told' r _ (fun x hx=>h x (by simp [hx]))]
  simp
theorem dec_told (ns:List Nat) (h:∀ n ∈ ns,n<9223372036854775808):dec (toldB ns)=(ns,0,0):=by
 have:=dec_told' ns [] h
 simpa [dec] using this
theorem dst_small {s:List Nat × Nat × Nat} (h:s.2.1<128 ^ (min s.2.2 9)) (b:UInt8):(dst s b).2.1<128 ^ (min (dst s b).2.2 9):=by
 obtain ⟨out,v,k⟩:=s
 simp only [dst] at *
 by_cases hb:b.toNat<128
 ·rw [if_pos hb];simp
 ·rw [if_neg hb]
  simp only
  by_cases hk:k<9
  ·rw [if_pos hk]
   rw [show min k 9=k by omega] at h
   rw [show min (k+1) 9=k+1 by omega,Nat.pow_succ]
   have h2:b.toNat % 128<128:=Nat.mod_lt _ (by omega)
   have h3:b.toNat % 128 * 128 ^ k≤127 * 128 ^ k:=Nat.mul_le_mul_right _ (by omega)
   omega
  ·rw [if_neg hk]
   rw [show min k 9=9 by omega] at h
   rw [show min (k+1) 9=9 by omega];exact h
theorem dec_small:∀ (n:Nat) (l:List UInt8),l.length=n→(dec l).2.1<128 ^ (min (dec l).2.2 9)∧(dec l).2.2≤l.length∧(dec l).1.length≤l.length
 | 0,l,hl=>by
  have:l=[]:=List.length_eq_zero_iff.1 hl
  subst this;simp [dec]
 | n+1,l,hl=>by
  have hne:l≠[]:=fun e=>by subst e;simp at hl
  have e:l=l.dropLast++[l.getLast hne]:=(List.dropLast_concat_getLast hne).symm
  have hl':l.dropLast.length=n:=by rw [List.length_dropLast];omega
  obtain ⟨h1,h2,h3⟩:=dec_small n l.dropLast hl'
  rw [e,dec_snoc]
  generalize l.getLast hne=b at *
  generalize l.dropLast=q at *
  refine ⟨dst_small h1 b,?_,?_⟩
  ·rw [List.length_append,List.length_singleton]
   simp only [dst]
   split <;> simp only <;> omega
  ·rw [List.length_append,List.length_singleton]
   simp only [dst]
   split
   ·simp only [List.length_append,List.length_singleton];omega
   ·simp only;omega
end Pl
theorem form_cmdB {c:Nat} {ns:List Nat} (h1:1≤c) (h2:c≤12) (hl:ns.length=(Pl.kindsL c).length) (hn:∀ n ∈ ns,n<9223372036854775808):formOf (Pl.cmdB c ns)=some (c,ns):=by
 have hc:(UInt8.ofNat c).toNat=c:=by rw [UInt8.toNat_ofNat'];omega
 have hk:Pl.kindsL c≠[]:=by
  rcases (show c=1∨c=2∨c=3∨c=4∨c=5∨c=6∨c=7∨c=8∨c=9∨c=10∨c=11∨c=12 by omega) with rfl | rfl | rfl | rfl | rfl | rfl | rfl | rfl | rfl | rfl | rfl | rfl <;> simp [Pl.kindsL]
 simp only [formOf,Pl.cmdB]
 rw [hc,Pl.nums_told ns hn]
 simp only [hk,if_false,hl,if_true]
theorem cmd_cmdB {c:Nat} {ns:List Nat} (h1:1≤c) (h2:c≤12) (hl:ns.length=(Pl.kindsL c).length) (hn:∀ n ∈ ns,n<9223372036854775808) (hm:Pl.mays (Pl.kindsL c) ns=true):Pl.cmd (Pl.cmdB c ns)=.ok (c,ns):=by
 have hc:(UInt8.ofNat c).toNat=c:=by rw [UInt8.toNat_ofNat'];omega
 have hk:Pl.kindsL c≠[]:=by
  rcases (show c=1∨c=2∨c=3∨c=4∨c=5∨c=6∨c=7∨c=8∨c=9∨c=10∨c=11∨c=12 by omega) with rfl | rfl | rfl | rfl | rfl | rfl | rfl | rfl | rfl | rfl | rfl | rfl <;> simp [Pl.kindsL]
 simp only [Pl.cmd,Pl.cmdB]
 rw [hc,Pl.nums_told ns hn]
 simp only [hk,hl,ne_eq,not_true,or_self,if_false,hm,if_true]
end Go.Proofs.YtgcedalggnmooabGreatDoor
namespace Go.Proofs.YtgcedalggnmooabGreatDoor
open Go.RowKit
def pk (c:Int) (n:Nat):Nat:=((if c<0 then -(c+1) else c) % (n:Int)).toNat
theorem pk_lt (c:Int) {n:Nat} (hn:0<n):pk c n<n:=by
 unfold pk
 have h1:=Int.emod_nonneg (if c<0 then -(c+1) else c) (show (n:Int)≠0 by omega)
 have h2:=Int.emod_lt_of_pos (if c<0 then -(c+1) else c) (show (0:Int)<n by omega)
 omega
theorem pk_eq (c:Int) {n:Nat} (hn:0<n):(pk c n:Int)=(if c<0 then -(c+1) else c) % (n:Int):=by
 unfold pk
 have h1:=Int.emod_nonneg (if c<0 then -(c+1) else c) (show (n:Int)≠0 by omega)
 omega
def Raw (c:Int):Prop:=-9223372036854775808≤c∧c≤9223372036854775807
set_option maxHeartbeats 400000 in
theorem pick_any (c:Int) (hc:Raw c) (n:Nat) (hn:0<n) (h2:n≤1000000) (w:World) :
  Calls Tryz.prog 14 #[.int .i64 c,.int .i64 (n:Int)] w fun e w'=>e=.returned (.int .i64 (pk c n:Int))∧w'=w:=by
 obtain ⟨q1,q2⟩:=hc
 have HP:=hide (pk_eq c hn)
 by_cases h:c<0
 ·rw [if_pos h] at HP
  have HT:Hid (-(Int.tmod (c+1) (n:Int))=(pk c n:Int)):=by unfold Hid;rw [← Int.neg_tmod,Int.tmod_eq_emod_of_nonneg (by omega),HP.out]
  have hlt:=pk_lt c hn
  generalize pk c n=p at *
  go_enter Tryz.func14,Tryz.ntmps14
  go_wp2_with fail
  go_ret
  exact ⟨by rw [HT.out];rfl,rfl⟩
 ·rw [if_neg h] at HP
  have HT:Hid (Int.tmod c (n:Int)=(pk c n:Int)):=by unfold Hid;rw [Int.tmod_eq_emod_of_nonneg (by omega),HP.out]
  have hlt:=pk_lt c hn
  generalize pk c n=p at *
  go_enter Tryz.func14,Tryz.ntmps14
  go_wp2_with fail
  go_ret
  exact ⟨by rw [HP.out];rfl,rfl⟩
set_option maxHeartbeats 400000 in
theorem id_any (c:Int) (hc:Raw c) (n:Nat) (hn:0<n) (h2:n≤1000000) (w:World) :
  Calls Tryz.prog 26 #[.int .i64 c,.int .i64 (n:Int)] w fun e w'=>e=.returned (.int .i64 ((1+pk c n:Nat):Int))∧w'=w:=by
 have HP:=hide (pick_any c hc n hn h2 w)
 have hlt:=pk_lt c hn
 generalize pk c n=p at *
 go_enter Tryz.func26,Tryz.ntmps26
 go_wp2_with (go_at_call 14;refine (HP.out).mono ?_;rintro e w1 ⟨rfl,rfl⟩)
 go_ret
 exact ⟨by go_num,rfl⟩
set_option maxHeartbeats 400000 in
theorem few_any (c:Int) (hc:Raw c) (w:World) :
  Calls Tryz.prog 27 #[.int .i64 c] w fun e w'=>e=.returned (.int .i64 ((1+pk c 400:Nat):Int))∧w'=w:=by
 have HP:=hide (pick_any c hc 400 (by omega) (by omega) w)
 have hlt:=pk_lt c (n:=400) (by omega)
 generalize pk c 400=p at *
 go_enter Tryz.func27,Tryz.ntmps27
 go_wp2_with (go_at_call 14;refine (HP.out).mono ?_;rintro e w1 ⟨rfl,rfl⟩)
 go_ret
 exact ⟨by go_num,rfl⟩
set_option maxHeartbeats 800000 in
theorem knumber_any (n:Nat) (hn:n<9223372036854775808) (w:World) :
  Calls Tryz.prog 33 #[.int .i64 (n:Int)] w fun e w'=>e=.returned (.string ⟨(Pl.num n).toArray⟩)∧Below w.heap.size w w':=by
 go_enter Tryz.func33,Tryz.ntmps33
 go_wp2_with fail
 go_loopw [0,3] (fun nv sv wr=>∃ (m:Nat) (p:List UInt8),nv=.int .i64 (m:Int)∧sv=.string ⟨p.toArray⟩∧m≤n∧p++Pl.num m=Pl.num n∧Below w.heap.size w wr) (fun nv _ _=>(intOf nv).toNat)
 case atStart=>exact ⟨n,[],rfl,rfl,Nat.le_refl _,rfl,Below.refl _ _⟩
 case round =>
  obtain ⟨m,p,rfl,rfl,hm,hp,hb⟩:=hrel
  have hl:=Pl.num_len n hn
  have hpl:p.length≤9:=by rw [← hp,List.length_append] at hl;omega
  have HPP:=hide hp
  have HB:=hide hb
  clear hp hb hl
  by_cases h1:m<128
  ·have hcv:=conv1 wr (m:Int) (by omega) (by omega) (0,0)
   go_wp2_with fail
   go_ret
   refine ⟨?_,HB.out.alloc HB.out.size _⟩
   rw [← HPP.out,Pl.num_lt h1]
   exact congrArg (fun b=>Ending.returned (.string b)) (ByteArray.mk_append_mk p [UInt8.ofNat m])
  ·have hcv:=conv1 wr ((m:Int) % 128+128) (by omega) (by omega) (0,0)
   go_wp2_with fail
   have HST:Hid (p++[UInt8.ofNat (m % 128)+128]++Pl.num (m / 128)=Pl.num n):=by
    unfold Hid
    rw [← HPP.out,Pl.num_ge h1,List.append_assoc]
    congr 1
    show (UInt8.ofNat (m % 128)+128) :: Pl.num (m / 128)=(UInt8.ofNat (m % 128+128)) :: Pl.num (m / 128)
    rw [UInt8.ofNat_add];rfl
   go_roundw
   case rel=>exact ⟨m / 128,p++[UInt8.ofNat (m % 128)+128],by simp,congrArg Value.string (ByteArray.mk_append_mk p [UInt8.ofNat (m % 128)+128]),by omega,HST.out,HB.out.alloc HB.out.size _⟩
   case measure=>simp [intOf];omega
def Cl (w:World) (g:Nat) (ns:List Nat):Prop:=g<w.heap.size∧∀ j,j<ns.length→w.cell? ⟨g,j,none⟩=some (.int .i64 ((ns.getD j 0:Nat):Int))
set_option maxHeartbeats 800000 in
theorem kcommand_any (c:Nat) (hc:c<256) (g cap:Nat) (ns:List Nat) (hl:ns.length≤1000) (hn:∀ n ∈ ns,n<9223372036854775808) (w:World) (hcl:Cl w g ns) :
  Calls Tryz.prog 22 #[.int .i64 (c:Int),.slice (some ⟨g,0,none⟩) ns.length cap] w fun e w'=>e=.returned (.string ⟨(Pl.cmdB c ns).toArray⟩)∧Below w.heap.size w w':=by
 have hcv:=conv1 w (c:Int) (by omega) (by omega) (0,0)
 have HCL:=hide hcl
 have HN:=hide hn
 clear hn hcl
 go_enter Tryz.func22,Tryz.ntmps22
 go_wp2_with fail
 go_loopw [5,6,7] (fun sv iv _ wr=>∃ (k:Nat),iv=.int .i64 (k:Int)∧k≤ns.length∧sv=.string ⟨(Pl.cmdB c (ns.take k)).toArray⟩∧Below w.heap.size w wr) (fun _ iv _ _=>ns.length - (intOf iv).toNat)
 case atStart=>exact ⟨0,rfl,by omega,rfl,(Below.refl _ _).alloc (Nat.le_refl _) _⟩
 case round =>
  obtain ⟨k,rfl,hk,rfl,hb⟩:=hrel
  have hbl:(Pl.cmdB c (ns.take k)).length≤1+9 * k:=by
   have:=Pl.toldB_len (ns.take k) (fun n h=>HN.out n (List.mem_of_mem_take h))
   rw [List.length_take] at this
   unfold Pl.cmdB
   rw [List.length_cons];omega
  have HB:=hide hb
  clear hb
  by_cases hlt:k<ns.length
  ·have hck:=(HB.out.cell (p:=⟨g,k,none⟩) HCL.out.1).trans (HCL.out.2 k hlt)
   have hxin:ns.getD k 0 ∈ ns:=by simp [List.getD_eq_getElem?_getD,hlt]
   have HNB:=hide (knumber_any (ns.getD k 0) (HN.out _ hxin))
   have hxl:=Pl.num_len (ns.getD k 0) (HN.out _ hxin)
   have HTK:Hid (Pl.cmdB c (ns.take (k+1))=Pl.cmdB c (ns.take k)++Pl.num (ns.getD k 0)):=by
    unfold Hid Pl.cmdB;rw [Pl.toldB_take ns k hlt];rfl
   have hxb:=HN.out _ hxin
   generalize ns.getD k 0=x at *
   clear hxin
   go_wp2_with (go_at_call 33;refine (HNB.out _).mono ?_;rintro e w1 ⟨rfl,hb1⟩)
   go_roundw
   case rel=>exact ⟨k+1,by go_num,by omega,by rw [HTK.out];exact congrArg Value.string (ByteArray.mk_append_mk _ _),HB.out.trans (hb1.mono HB.out.size)⟩
   case measure=>simp [intOf];omega
  ·obtain rfl:k=ns.length:=by omega
   have HE:Hid (ns.take ns.length=ns):=List.take_length
   rw [HE.out]
   clear hlt
   go_wp2_with fail
   go_ret
   exact ⟨rfl,HB.out⟩
end Go.Proofs.YtgcedalggnmooabGreatDoor
namespace Go.Proofs.YtgcedalggnmooabGreatDoor
open Go.RowKit
def decJ (s:ByteArray) (j:Nat):List Nat × Nat × Nat:=Pl.dec ((s.data.toList.take j).drop 1)
theorem decJ_one (s:ByteArray):decJ s 1=([],0,0):=by
 unfold decJ;cases s.data.toList <;> simp [Pl.dec]
theorem decJ_succ (s:ByteArray) {j:Nat} (h1:1≤j) (hj:j<s.size):decJ s (j+1)=Pl.dst (decJ s j) s[j]:=by
 have hj':j<s.data.toList.length:=by simpa using hj
 unfold decJ
 rw [List.take_succ_eq_append_getElem hj',List.drop_append_of_le_length (by rw [List.length_take];omega),Pl.dec_snoc]
 rfl
theorem own_shapeV {w:World} {base e n:Nat} {v:Value} {xs:List Value} (h:w.ownsRow base e 1 v n xs):∃ a cap,v=.slice a n cap:=own_shape h
set_option maxHeartbeats 1600000 in
theorem knumbers_any (s:ByteArray) (hs:s.size≤2097152) (w:World) :
  Calls Tryz.prog 32 #[.string s] w fun e w'=>Below w.heap.size w w'∧∃ v,e=.returned v∧w'.ownsRow w.heap.size 3 1 v (Pl.dec (s.data.toList.drop 1)).1.length (I (Pl.dec (s.data.toList.drop 1)).1):=by
 obtain ⟨i0,hi,hz0,hz1,hz2⟩:=info_parts info3
 go_enter Tryz.func32,Tryz.ntmps32
 go_wp2_with fail
 go_loopw [3,4,5,6] (fun ov vv sv iv wr=>∃ (j k:Nat),iv=.int .i64 (j:Int)∧1≤j∧(j≤s.size∨j=1)∧vv=.int .i64 ((decJ s j).2.1:Int)∧sv=.int .i64 ((7 * k:Nat):Int)∧k=(decJ s j).2.2∧wr.ownsRow w.heap.size 3 1 ov (decJ s j).1.length (I (decJ s j).1)∧Below w.heap.size w wr) (fun _ _ _ iv _=>s.size - (intOf iv).toNat)
 case atStart=>exact ⟨1,0,rfl,by omega,Or.inr rfl,by rw [decJ_one];rfl,rfl,by rw [decJ_one],by rw [decJ_one];exact World.ownsRow_nil _ _ _ _,Below.refl _ _⟩
 case round =>
  obtain ⟨j,k,rfl,h1,hj,rfl,rfl,hk,hown,hb⟩:=hrel
  have HB:=hide hb
  have HO:=hide hown
  have hws:w.heap.size≤wr.heap.size:=hb.size
  obtain ⟨hsm,hkl,hol⟩:=Pl.dec_small _ ((s.data.toList.take j).drop 1) rfl
  have hll:((s.data.toList.take j).drop 1).length≤2097152:=by
   rw [List.length_drop,List.length_take];simp;omega
  have hkb:k≤2097152:=by rw [hk];unfold decJ;omega
  have hob:(decJ s j).1.length≤2097152:=by unfold decJ;omega
  have hv:(decJ s j).2.1<128 ^ (min k 9):=by rw [hk];exact hsm
  by_cases hlt:j<s.size
  ·have HST:=hide (decJ_succ s h1 hlt)
   have hb256:s[j].toNat<256:=UInt8.toNat_lt _
   obtain ⟨st,hd⟩:∃ st,st=decJ s j:=⟨_,rfl⟩
   obtain ⟨out,v,k'⟩:=st
   rw [← hd] at hk hob hv HO HST
   rw [← hd]
   simp only at hk hob hv HO HST ⊢
   subst hk
   obtain ⟨oa,oc,hov⟩:=own_shapeV HO.out
   subst hov
   have hne1:(k<9→wrap64 ((v:Int)+wrap64 ((s[j].toNat:Int) % 128 * 2 ^ (7 * k)))=((v+s[j].toNat % 128 * 128 ^ k:Nat):Int)):=fun h9=>by
    have e2:(2:Int) ^ (7 * k)=((128 ^ k:Nat):Int):=by
     rw [Int.pow_mul];norm_cast
    rw [show min k 9=k by omega] at hv
    have hm:s[j].toNat % 128 * 128 ^ k≤127 * 128 ^ k:=Nat.mul_le_mul_right _ (by omega)
    have hp:128 ^ (k+1)≤128 ^ 9:=Nat.pow_le_pow_right (by omega) (by omega)
    have hp9:(128:Nat) ^ 9=9223372036854775808:=by decide
    rw [Nat.pow_succ] at hp
    have e3:(s[j].toNat:Int) % 128 * ((128 ^ k:Nat):Int)=((s[j].toNat % 128 * 128 ^ k:Nat):Int):=by push_cast;rfl
    rw [e2,e3]
    generalize s[j].toNat % 128 * 128 ^ k=y at *
    rw [wrap64_in (y:Int) ⟨by omega,by omega⟩,wrap64_in _ ⟨by omega,by omega⟩];norm_cast
   have HE:=hide hne1
   have hst1:s[j].toNat<128→Pl.dst (out,v,k) s[j]=(out++[if k<9 then v+s[j].toNat % 128 * 128 ^ k else v],0,0):=fun h=>by simp only [Pl.dst];rw [if_pos h]
   have hst2:¬ s[j].toNat<128→Pl.dst (out,v,k) s[j]=(out,(if k<9 then v+s[j].toNat % 128 * 128 ^ k else v),k+1):=fun h=>by simp only [Pl.dst];rw [if_neg h]
   have HS1:=hide hst1
   have HS2:=hide hst2
   have hvl:v<9223372036854775808:=by
    have hp:128 ^ (min k 9)≤128 ^ 9:=Nat.pow_le_pow_right (by omega) (by omega)
    have hp9:(128:Nat) ^ 9=9223372036854775808:=by decide
    omega
   clear hown hb hsm hkl hol hll hd hne1 hst1 hst2 hv
   by_cases h128:s[j].toNat<128
   ·by_cases h9:k<9
    ·have HQ:=hide (HS1.out h128)
     rw [if_pos h9] at HQ
     have HE1:=hide (HE.out h9)
     go_wp2_with (at_builtin;refine wpList_append_own _ rfl _ _ 44 rfl w.heap.size 3 i0 (.int .i64 0) 1 8 tU48 hi hz0 hz1 hz2 rfl (by decide) (.slice oa out.length oc) out.length (I out) rfl (HO.out.alloc _) ⟨wr.heap.size,0,none⟩ 1 1 [.int .i64 (wrap64 ((v:Int)+wrap64 ((s[j].toNat:Int) % 128 * 2 ^ (7 * k))))] rfl rfl ?c1 ?c2 ?c3 ?c4 ?c5 ?_)
     case c1=>exact one_new _ _ _
     case c2=>intro u hu;simp at hu;subst hu;rfl
     case c3=>unfold maxLen;omega
     case c4=>omega
     case c5=>simp;omega
     intro v' w6 hown6 hgrow hnn
     have HBB:Hid (Below w.heap.size w w6):=(HB.out.alloc hws _).grown hgrow (by simp;omega) (fun q hq=>(HO.out.lt q hq).1)
     rw [HE1.out] at hown6
     have HO6:Hid (w6.ownsRow w.heap.size 3 1 v' (decJ s (j+1)).1.length (I (decJ s (j+1)).1)):=by
      unfold Hid;rw [HST.out,HQ.out,I_snoc,List.length_append];exact hown6
     have HD2:Hid ((decJ s (j+1)).2.1=0∧(decJ s (j+1)).2.2=0):=by unfold Hid;rw [HST.out,HQ.out];exact ⟨rfl,rfl⟩
     clear hown6 hgrow hnn HE1 HE HS1 HS2
     go_wp2_with fail
     go_roundw
     case rel=>exact ⟨j+1,0,by go_num,by omega,Or.inl (by omega),by rw [HD2.out.1];rfl,rfl,HD2.out.2.symm,HO6.out,HBB.out⟩
     case measure=>simp [intOf];omega
    ·have HQ:=hide (HS1.out h128)
     rw [if_neg h9] at HQ
     go_wp2_with (at_builtin;refine wpList_append_own _ rfl _ _ 44 rfl w.heap.size 3 i0 (.int .i64 0) 1 8 tU48 hi hz0 hz1 hz2 rfl (by decide) (.slice oa out.length oc) out.length (I out) rfl (HO.out.alloc _) ⟨wr.heap.size,0,none⟩ 1 1 [.int .i64 (v:Int)] rfl rfl ?d1 ?d2 ?d3 ?d4 ?d5 ?_)
     case d1=>exact one_new _ _ _
     case d2=>intro u hu;simp at hu;subst hu;rfl
     case d3=>unfold maxLen;omega
     case d4=>omega
     case d5=>simp;omega
     intro v' w6 hown6 hgrow hnn
     have HBB:Hid (Below w.heap.size w w6):=(HB.out.alloc hws _).grown hgrow (by simp;omega) (fun q hq=>(HO.out.lt q hq).1)
     have HO6:Hid (w6.ownsRow w.heap.size 3 1 v' (decJ s (j+1)).1.length (I (decJ s (j+1)).1)):=by
      unfold Hid;rw [HST.out,HQ.out,I_snoc,List.length_append];exact hown6
     have HD2:Hid ((decJ s (j+1)).2.1=0∧(decJ s (j+1)).2.2=0):=by unfold Hid;rw [HST.out,HQ.out];exact ⟨rfl,rfl⟩
     clear hown6 hgrow hnn HE HS1 HS2
     go_wp2_with fail
     go_roundw
     case rel=>exact ⟨j+1,0,by go_num,by omega,Or.inl (by omega),by rw [HD2.out.1];rfl,rfl,HD2.out.2.symm,HO6.out,HBB.out⟩
     case measure=>simp [intOf];omega
   ·by_cases h9:k<9
    ·have HQ:=hide (HS2.out h128)
     rw [if_pos h9] at HQ
     have HE1:=hide (HE.out h9)
     have HO6:Hid (wr.ownsRow w.heap.size 3 1 (.slice oa out.length oc) (decJ s (j+1)).1.length (I (decJ s (j+1)).1)):=by
      unfold Hid;rw [HST.out,HQ.out];exact HO.out
     have HD2:Hid ((decJ s (j+1)).2.1=v+s[j].toNat % 128 * 128 ^ k∧(decJ s (j+1)).2.2=k+1):=by unfold Hid;rw [HST.out,HQ.out];exact ⟨rfl,rfl⟩
     clear HE HS1 HS2
     go_wp2_with fail
     go_roundw
     case rel=>exact ⟨j+1,k+1,by go_num,by omega,Or.inl (by omega),by rw [HD2.out.1,HE1.out],by go_num,HD2.out.2.symm,HO6.out,HB.out⟩
     case measure=>simp [intOf];omega
    ·have HQ:=hide (HS2.out h128)
     rw [if_neg h9] at HQ
     have HO6:Hid (wr.ownsRow w.heap.size 3 1 (.slice oa out.length oc) (decJ s (j+1)).1.length (I (decJ s (j+1)).1)):=by
      unfold Hid;rw [HST.out,HQ.out];exact HO.out
     have HD2:Hid ((decJ s (j+1)).2.1=v∧(decJ s (j+1)).2.2=k+1):=by unfold Hid;rw [HST.out,HQ.out];exact ⟨rfl,rfl⟩
     clear HE HS1 HS2
     go_wp2_with fail
     go_roundw
     case rel=>exact ⟨j+1,k+1,by go_num,by omega,Or.inl (by omega),by rw [HD2.out.1],by go_num,HD2.out.2.symm,HO6.out,HB.out⟩
     case measure=>simp [intOf];omega
  ·have HDJ:Hid (decJ s j=Pl.dec (s.data.toList.drop 1)):=by
    unfold Hid decJ
    rw [List.take_of_length_le (by simp;omega)]
   rw [HDJ.out] at HO
   obtain ⟨oa,oc,hov⟩:=own_shapeV HO.out
   subst hov
   clear hown hb hsm hkl hol hll hv
   go_wp2_with fail
   go_ret
   exact ⟨HB.out,_,rfl,HO.out⟩
end Go.Proofs.YtgcedalggnmooabGreatDoor
