import Derived.Test.YtgcedalggnmooabGreatDoorRefAX
set_option linter.unusedSimpArgs false
set_option linter.unusedVariables false
set_option maxRecDepth 100000
namespace Go.Proofs.YtgcedalggnmooabGreatDoor
open Go.RowKit
def Gl (w:World):Prop:=(∃ t v,w.cell? ⟨2,0,none⟩=some (.iface t v))∧(∃ t v,w.cell? ⟨3,0,none⟩=some (.iface t v))∧4≤w.heap.size
set_option maxHeartbeats 400000 in
theorem byte_ok (b:Nat) (s:ByteArray) (h0:0<s.size) (w:World) (hc:w.cell? ⟨b,0,none⟩=some (.string s)) (hf:w.frozen? ⟨b,0,none⟩=false) :
  Calls Tryz.prog 74 #[.pointer (some ⟨b,0,none⟩)] w fun e w'=>e=.returned (.int .u8 (s[0].toNat:Int))∧w'=w.setCell ⟨b,0,none⟩ (.string (s.extract 1 s.size)):=by
 have hne:s.toList.isEmpty=false:=by
  rw [ByteArray.toList_eq]
  cases h:s.data.toList with
  | nil =>
   have hl:s.data.toList.length=s.size:=by simp
   rw [h] at hl
   have:s.size=0:=hl.symm
   omega
  | cons=>rfl
 go_enter Tryz.func74,Tryz.ntmps74
 go_wp2_with fail
 go_ret
 exact ⟨rfl,rfl⟩
set_option maxHeartbeats 400000 in
theorem byte_no (b:Nat) (w:World) (hc:w.cell? ⟨b,0,none⟩=some (.string ⟨#[]⟩)) (t:TypeId) (v:Value) (hg:w.cell? ⟨3,0,none⟩=some (.iface t v)) :
  Calls Tryz.prog 74 #[.pointer (some ⟨b,0,none⟩)] w fun e w'=>e=.panicked [{ v:=.iface t v,recovered:=false }]∧w'=w:=by
 go_enter Tryz.func74,Tryz.ntmps74
 go_wp2_with fail
 exact ⟨rfl,rfl,rfl⟩
structure Rd (b:Nat) (w w':World) (s:ByteArray):Prop where
 os:w'.os=w.os
 tape:w'.tape=w.tape
 output:w'.output=w.output
 size:w'.heap.size=w.heap.size
 block:∀ k,k≠b→w'.heap[k]?=w.heap[k]?
 here:w'.heap[b]?=some (.cells #[.string s] 147 (0,0))
theorem Rd.cell {b:Nat} {w w':World} {s:ByteArray} (h:Rd b w w' s):w'.cell? ⟨b,0,none⟩=some (.string s):=by
 simp [World.cell?,h.here]
theorem Rd.frozen {b:Nat} {w w':World} {s:ByteArray} (h:Rd b w w' s):w'.frozen? ⟨b,0,none⟩=false:=by
 simp [World.frozen?,h.here]
theorem Rd.other {b:Nat} {w w':World} {s:ByteArray} (h:Rd b w w' s) (a:Addr) (ha:a.block≠b):w'.cell? a=w.cell? a:=World.cell?_of_block (w:=w) (h.block a.block ha)
theorem Rd.trans {b:Nat} {w w' w'':World} {s t:ByteArray} (h:Rd b w w' s) (k:Rd b w' w'' t):Rd b w w'' t :=
 ⟨k.os.trans h.os,k.tape.trans h.tape,k.output.trans h.output,k.size.trans h.size,fun i hi=>(k.block i hi).trans (h.block i hi),k.here⟩
theorem Rd.refl {b:Nat} {w:World} {s:ByteArray} (h:w.heap[b]?=some (.cells #[.string s] 147 (0,0))):Rd b w w s:=⟨rfl,rfl,rfl,rfl,fun _ _=>rfl,h⟩
theorem Rd.set {b:Nat} {w w':World} {s:ByteArray} (h:Rd b w w' s) (t:ByteArray):Rd b w (w'.setCell ⟨b,0,none⟩ (.string t)) t :=
 h.trans ⟨rfl,rfl,rfl,by simp [World.setCell],fun k hk=>Below.heap_setCell _ _ _ _ hk,by
  have:=heap_setCell_same w' b 0 #[.string s] 147 (.string t) h.here
  simpa using this⟩
theorem Rd.below {b B:Nat} {w w':World} {s:ByteArray} (h:Rd b w w' s) (hb:B≤b):Below B w w' :=
 ⟨h.os,h.tape,h.output,by rw [h.size];exact Nat.le_refl _,fun k hk=>h.block k (by omega)⟩
theorem Gl.rd {b:Nat} {w w':World} {s:ByteArray} (h:Gl w) (k:Rd b w w' s) (hb:4≤b):Gl w':=by
 obtain ⟨⟨t0,v0,h0⟩,⟨t1,v1,h1⟩,h2⟩:=h
 exact ⟨⟨t0,v0,by rw [k.other _ (by simp;omega)];exact h0⟩,⟨t1,v1,by rw [k.other _ (by simp;omega)];exact h1⟩,by rw [k.size];exact h2⟩
def Broke (b:Nat) (w:World) (e:Ending) (w':World):Prop:=(∃ t v,e=.panicked [{ v:=.iface t v,recovered:=false }])∧∃ s,Rd b w w' s
theorem ba0 (s:ByteArray) (k:Nat) (hk:k<s.size):(s.extract k s.size)[0]'(by rw [ByteArray.size_extract];omega)=s[k]:=by
 simp [ByteArray.getElem_extract]
theorem ba1 (s:ByteArray) (k:Nat) (hk:k<s.size):(s.extract k s.size).extract 1 (s.extract k s.size).size=s.extract (k+1) s.size:=by
 apply ByteArray.ext
 simp [ByteArray.data_extract,ByteArray.size_extract]
 congr 1
 omega
end Go.Proofs.YtgcedalggnmooabGreatDoor
namespace Go.Proofs.YtgcedalggnmooabGreatDoor
open Go.RowKit
theorem byte_get (b:Nat) (s:ByteArray) (h0:0<s.size) (w w':World) (hr:Rd b w w' s) :
  Calls Tryz.prog 74 #[.pointer (some ⟨b,0,none⟩)] w' fun e w''=>e=.returned (.int .u8 (s[0].toNat:Int))∧Rd b w w'' (s.extract 1 s.size) :=
 (byte_ok b s h0 w' hr.cell hr.frozen).mono fun _ _ ⟨h1,h2⟩=>⟨h1,h2 ▸ hr.set _⟩
theorem byte_break (b:Nat) (hb:4≤b) (s:ByteArray) (h0:s.size=0) (w w':World) (hg:Gl w) (hr:Rd b w w' s) :
  Calls Tryz.prog 74 #[.pointer (some ⟨b,0,none⟩)] w' (Broke b w):=by
 have he:s=⟨#[]⟩:=by
  apply ByteArray.ext
  apply Array.eq_empty_of_size_eq_zero
  exact h0
 subst he
 obtain ⟨t1,v1,h1⟩:=(hg.rd hr hb).2.1
 exact (byte_no b w' hr.cell t1 v1 h1).mono fun _ _ ⟨h1,h2⟩=>⟨⟨t1,v1,h1⟩,⟨#[]⟩,h2 ▸ hr⟩
theorem ofInt_i64 (a:Nat) (ha:a<9223372036854775808):(BitVec.ofInt 64 (a:Int)).toNat=a:=by
 rw [BitVec.ofInt_natCast,BitVec.toNat_ofNat];exact Nat.mod_eq_of_lt (by omega)
theorem i64_or_nat (a b:Nat) (ha:a<9223372036854775808) (hb:b<9223372036854775808):bits .or .i64 (a:Int) (b:Int)=((a ||| b:Nat):Int):=by
 have hx:a ||| b<2 ^ 63:=Nat.or_lt_two_pow (by omega) (by omega)
 show IntKind.i64.wrap ((BitVec.ofInt 64 (a:Int) ||| BitVec.ofInt 64 (b:Int)).toNat:Int)=_
 rw [BitVec.toNat_or,ofInt_i64 a ha,ofInt_i64 b hb,IntWalk.i64_left,wrap64_in _ ⟨by omega,by omega⟩]
theorem step_or (s:ByteArray) (k:Nat) (h:k<s.size) (h9:k<9) :
  bits .or .i64 (Pl.val (List.take k s.data.toList):Int) (wrap64 (wrap64 (bits .and .u8 (s[k].toNat:Int) 127) * 2 ^ (7 * k)))=(Pl.val (s.data.toList.take (k+1)):Int):=by
 have hb:s[k].toNat<256:=UInt8.toNat_lt _
 have e0:bits .and .u8 (s[k].toNat:Int) 127=((s[k].toNat % 128:Nat):Int):=by
  have:=u8_and_nat s[k].toNat 127 hb (by omega)
  rw [show ((127:Nat):Int)=127 from rfl] at this
  rw [this,show (127:Nat)=2 ^ 7 - 1 from rfl,Nat.and_two_pow_sub_one_eq_mod]
 rw [e0,wrap64_in ((s[k].toNat % 128:Nat):Int) ⟨by omega,by omega⟩]
 have e2:(2:Int) ^ (7 * k)=((128 ^ k:Nat):Int):=by
  rw [Int.pow_mul];norm_cast
 have hlt:=Pl.val_take_lt s.data.toList (k+1) (by omega)
 have hsn:=Pl.take_snoc s.data.toList k (by simpa using h)
 have hlen:(s.data.toList.take k).length=k:=by rw [List.length_take,show s.data.toList.length=s.size from by simp];omega
 have hv:=Pl.val_snoc (s.data.toList.getD k 0) (s.data.toList.take k)
 have hvl:=Pl.val_lt (s.data.toList.take k)
 rw [← hsn,ba_getD s k h,hlen] at hv
 rw [hlen] at hvl
 rw [e2,← Int.natCast_mul]
 have hle:s[k].toNat % 128 * 128 ^ k≤Pl.val (s.data.toList.take (k+1)):=by rw [hv];omega
 rw [wrap64_in ((s[k].toNat % 128 * 128 ^ k:Nat):Int) ⟨by omega,by omega⟩,i64_or_nat _ _ (by omega) (by omega)]
 have e3:(128:Nat) ^ k=2 ^ (7 * k):=by rw [Nat.pow_mul]
 have e4:Pl.val (s.data.toList.take k) ||| s[k].toNat % 128 * 128 ^ k=Pl.val (s.data.toList.take (k+1)):=by
  rw [hv,Nat.or_comm,e3,Nat.mul_comm (s[k].toNat % 128) (2 ^ (7 * k)),← Nat.two_pow_add_eq_or_of_lt (by rw [← e3];exact hvl),Nat.add_comm]
 rw [e4]
theorem ret_int {k:IntKind} {a b:Int} (h:a=b):Ending.returned (.int k a)=.returned (.int k b):=by rw [h]
theorem first_by (s:ByteArray) (k:Nat) (h9:k<9) (h:k<s.size) (hld:∀ j,j<k→128≤(s.data.toList.getD j 0).toNat) (hlo:s[k].toNat<128) :
  (¬ (0<k∧s[k].toNat=0)→Pl.fst s.data.toList=Pl.val (s.data.toList.take (k+1))∧Pl.snd s.data.toList=k+1)∧(0<k∧s[k].toNat=0→Pl.snd s.data.toList=0):=by
 have hk:k<s.data.toList.length:=by simpa using h
 have hlo':(s.data.toList.getD k 0).toNat<128:=by rw [ba_getD s k h];exact hlo
 have hst:=Pl.first_stop s.data.toList k h9 hk hld hlo'
 have hn:=Pl.num_val (s.data.toList.getD k 0) hlo' (s.data.toList.take k) (Pl.all_lead _ k (by omega) hld)
 rw [← Pl.take_snoc _ k hk,ba_getD s k h] at hn
 have hlen:(s.data.toList.take k).length=k:=by rw [List.length_take];omega
 rw [hlen] at hn
 have hz:s[k]=0↔s[k].toNat=0:=by rw [← UInt8.toNat_inj];rfl
 rw [hz] at hn
 exact ⟨fun hh=>hst.1 (hn.2 hh),fun hh=>(hst.2 (fun he=>hn.1 he hh)).2⟩
set_option maxHeartbeats 800000 in
theorem number_get (b:Nat) (hb:4≤b) (s:ByteArray) (hs:s.size≤70368744177664) (w w0:World) (hg:Gl w) (hr0:Rd b w w0 s) :
  Calls Tryz.prog 62 #[.pointer (some ⟨b,0,none⟩)] w0 fun e w' =>
   (Pl.snd s.data.toList≠0∧e=.returned (.int .i64 (Pl.fst s.data.toList:Nat))∧Rd b w w' (s.extract (Pl.snd s.data.toList) s.size))∨(Pl.snd s.data.toList=0∧Broke b w e w'):=by
 go_enter Tryz.func62,Tryz.ntmps62
 go_wp2_with fail
 go_loopw [3,4,5,6] (fun v _ _ i wr=>∃ k:Nat,k≤9∧k≤s.size∧i=.int .i64 k∧v=.int .i64 (Pl.val (s.data.toList.take k))∧(∀ j,j<k→128≤(s.data.toList.getD j 0).toNat)∧Rd b w wr (s.extract k s.size)) (fun _ _ _ i _=>9 - (intOf i).toNat)
 case atStart=>exact ⟨0,by omega,by omega,rfl,rfl,fun j h=>absurd h (by omega),by simpa using hr0⟩
 case round =>
  obtain ⟨k,h9,hk,rfl,rfl,hld,hr⟩:=hrel
  have HO:Hid (k=9∨k=s.size→Pl.fst s.data.toList=0∧Pl.snd s.data.toList=0):=fun h=>Pl.first_out _ k h9 (by simpa using hk) hld (by simpa using h)
  have hv:=Pl.val_lt (s.data.toList.take k)
  by_cases h2:k<9
  ·by_cases h1:k<s.size
   ·have hex:0<(s.extract k s.size).size:=by rw [ByteArray.size_extract];omega
    have H1:=hide (byte_get b (s.extract k s.size) hex w wr hr)
    rw [ba0 s k h1,ba1 s k h1] at H1
    have hbk:s[k].toNat<256:=UInt8.toNat_lt _
    clear hv
    have HE:=hide (step_or s k h1 h2)
    have HF:Hid (s[k].toNat<128→((¬ (0<k∧s[k].toNat=0)→Pl.fst s.data.toList=Pl.val (s.data.toList.take (k+1))∧Pl.snd s.data.toList=k+1)∧(0<k∧s[k].toNat=0→Pl.snd s.data.toList=0))):=fun hlo=>first_by s k h2 h1 hld hlo
    go_wp2_with (go_at_call 74;refine (H1.out).mono ?_;rintro e w1 ⟨rfl,hr1⟩;obtain ⟨t1,v1,hg1⟩:=(hg.rd hr1 hb).2.1)
    ·rw [HE.out]
     go_roundw
     case rel =>
      refine ⟨k+1,by omega,by omega,by go_num,rfl,?_,hr1⟩
      have hhi:128≤(s[k].toNat:Int):=by assumption
      intro j hj
      by_cases hjk:j=k
      ·subst hjk;rw [ba_getD s j h1];omega
      ·exact hld j (by omega)
     case measure=>simp [intOf];omega
    ·have hz:s[k].toNat=0:=by assumption
     have hkp:0<k:=by assumption
     refine ⟨rfl,Or.inr ⟨(HF.out (by omega)).2 ⟨hkp,hz⟩,⟨t1,v1,rfl⟩,_,hr1⟩⟩
    ·have hz:s[k].toNat=0:=by assumption
     have hkp:¬ 0<k:=by assumption
     obtain ⟨f1,f2⟩:=(HF.out (by omega)).1 (fun h=>hkp h.1)
     have HE':=HE.out
     rw [hz,show ((0:Nat):Int)=0 from rfl] at HE'
     rw [HE']
     go_ret
     exact Or.inl ⟨by omega,ret_int (by rw [f1]),by rw [f2];exact hr1⟩
    ·have hz:¬ s[k].toNat=0:=by assumption
     have hlo:(s[k].toNat:Int)<128:=by assumption
     obtain ⟨f1,f2⟩:=(HF.out (by omega)).1 (fun h=>hz h.2)
     rw [HE.out]
     go_ret
     exact Or.inl ⟨by omega,ret_int (by rw [f1]),by rw [f2];exact hr1⟩
   ·have H1:=hide (byte_break b hb (s.extract k s.size) (by rw [ByteArray.size_extract];omega) w wr hg hr)
    have hz:=HO.out (Or.inr (by omega))
    have HZ:=hide hz.2
    clear hz
    go_wp2_with (go_at_call 74;refine (H1.out).mono ?_;rintro e w1 ⟨⟨t1,v1,rfl⟩,s1,hr1⟩)
    exact ⟨rfl,Or.inr ⟨HZ.out,⟨t1,v1,rfl⟩,s1,hr1⟩⟩
  ·have HZ:=hide (HO.out (Or.inl (by omega))).2
   obtain ⟨t1,v1,hg1⟩:=(hg.rd hr hb).2.1
   go_wp2_with fail
   exact ⟨rfl,Or.inr ⟨HZ.out,⟨t1,v1,rfl⟩,_,hr⟩⟩
end Go.Proofs.YtgcedalggnmooabGreatDoor
namespace Go.Proofs.YtgcedalggnmooabGreatDoor
open Go.RowKit
def RdL (b:Nat) (w w':World) (l:List UInt8):Prop:=∃ t:ByteArray,t.data.toList=l∧t.size≤2097152∧Rd b w w' t
theorem num_get (b:Nat) (hb:4≤b) (l:List UInt8) (w w0:World) (hg:Gl w) (hr0:RdL b w w0 l) :
  Calls Tryz.prog 62 #[.pointer (some ⟨b,0,none⟩)] w0 fun e w' =>
   (Pl.snd l≠0∧e=.returned (.int .i64 (Pl.fst l:Nat))∧RdL b w w' (l.drop (Pl.snd l)))∨(Pl.snd l=0∧Broke b w e w'):=by
 obtain ⟨t,rfl,ht,hr⟩:=hr0
 refine (number_get b hb t (by omega) w w0 hg hr).mono ?_
 rintro e w' (⟨h1,h2,h3⟩ | h)
 ·exact Or.inl ⟨h1,h2,_,extract_drop t _,by rw [ByteArray.size_extract];omega,h3⟩
 ·exact Or.inr h
theorem byte_get' (b:Nat) (c:UInt8) (r:List UInt8) (w w0:World) (hr0:RdL b w w0 (c :: r)) :
  Calls Tryz.prog 74 #[.pointer (some ⟨b,0,none⟩)] w0 fun e w'=>e=.returned (.int .u8 (c.toNat:Int))∧RdL b w w' r:=by
 obtain ⟨t,ht,hts,hr⟩:=hr0
 have hsz:0<t.size:=by
  have:t.data.toList.length=t.size:=by simp
  rw [ht] at this;simp at this;omega
 have h0:t[0]=c:=by
  have:=ba_getD t 0 hsz
  rw [ht] at this;simpa using this.symm
 refine (byte_get b t hsz w w0 hr).mono ?_
 rintro e w' ⟨h1,h2⟩
 rw [h0] at h1
 refine ⟨h1,_,?_,?_,h2⟩
 ·rw [extract_drop,ht];rfl
 ·rw [ByteArray.size_extract];omega
def TakePost (b:Nat) (w:World) (T n:Nat) (r:List UInt8) (e:Ending) (w':World):Prop :=
 match Pl.readN n r with
 | none=>Broke b w e w'
 | some (ns,rest)=>e=.returned (.iface T (.agg (I ns).toArray))∧RdL b w w' rest
theorem readN_stop {n:Nat} {l:List UInt8} (h:Pl.snd l=0):Pl.readN (n+1) l=none:=by simp [Pl.readN,h]
theorem readN_step {n:Nat} {l:List UInt8} (h:Pl.snd l≠0):Pl.readN (n+1) l=(Pl.readN n (l.drop (Pl.snd l))).map fun p=>(Pl.fst l :: p.1,p.2):=by
 simp only [Pl.readN,h,if_false]
 cases Pl.readN n (l.drop (Pl.snd l)) <;> rfl
set_option maxHeartbeats 800000 in
theorem take_Day (b:Nat) (hb:4≤b) (r:List UInt8) (w w0:World) (hg:Gl w) (hr0:RdL b w w0 (1 :: r)) :
  Calls Tryz.prog 45 #[.pointer (some ⟨b,0,none⟩)] w0 (TakePost b w 86 1 r):=by
 have HB:=hide (byte_get' b 1 r w w0 hr0)
 rw [show ((1:UInt8).toNat:Int)=1 from rfl] at HB
 clear hr0
 go_enter Tryz.func45,Tryz.ntmps45
 go_wp2_with fail
 refine (HB.out).mono ?_
 rintro e w1 ⟨rfl,hr1⟩
 obtain ⟨l0,HL0⟩:∃ l,Hid (l=r):=⟨_,rfl⟩
 have hq0:RdL b w w1 l0:=by rw [HL0.out];exact hr1
 clear hr1
 obtain ⟨f0,HF0⟩:∃ f,Hid (f=Pl.fst l0):=⟨_,rfl⟩
 go_wp2_with fail
 refine (num_get b hb l0 w _ hg hq0).mono ?_
 rintro e w2 (⟨hs0,rfl,hr2⟩ | ⟨hs0,⟨t0,v0,rfl⟩,hr2⟩)
 rotate_left
 ·refine ⟨rfl,?_⟩
  show TakePost b w 86 1 r _ _
  unfold TakePost
  rw [← HL0.out,readN_stop hs0]
  exact ⟨⟨t0,v0,rfl⟩,hr2⟩
 rw [← HF0.out]
 have HS0:=hide hs0
 clear hs0 hq0
 go_wp2_with fail
 go_ret
 unfold TakePost
 rw [← HL0.out,readN_step HS0.out]
 simp only [Pl.readN,Option.map_some,← HF0.out]
 exact ⟨rfl,hr2⟩
set_option maxHeartbeats 800000 in
theorem take_Receive (b:Nat) (hb:4≤b) (r:List UInt8) (w w0:World) (hg:Gl w) (hr0:RdL b w w0 (2 :: r)) :
  Calls Tryz.prog 45 #[.pointer (some ⟨b,0,none⟩)] w0 (TakePost b w 89 4 r):=by
 have HB:=hide (byte_get' b 2 r w w0 hr0)
 rw [show ((2:UInt8).toNat:Int)=2 from rfl] at HB
 clear hr0
 go_enter Tryz.func45,Tryz.ntmps45
 go_wp2_with fail
 refine (HB.out).mono ?_
 rintro e w1 ⟨rfl,hr1⟩
 obtain ⟨l0,HL0⟩:∃ l,Hid (l=r):=⟨_,rfl⟩
 have hq0:RdL b w w1 l0:=by rw [HL0.out];exact hr1
 clear hr1
 obtain ⟨f0,HF0⟩:∃ f,Hid (f=Pl.fst l0):=⟨_,rfl⟩
 go_wp2_with fail
 refine (num_get b hb l0 w _ hg hq0).mono ?_
 rintro e w2 (⟨hs0,rfl,hr2⟩ | ⟨hs0,⟨t0,v0,rfl⟩,hr2⟩)
 rotate_left
 ·refine ⟨rfl,?_⟩
  show TakePost b w 89 4 r _ _
  unfold TakePost
  rw [← HL0.out,readN_stop hs0]
  exact ⟨⟨t0,v0,rfl⟩,hr2⟩
 rw [← HF0.out]
 have HS0:=hide hs0
 clear hs0 hq0
 obtain ⟨l1,HL1⟩:∃ l,Hid (l=l0.drop (Pl.snd l0)):=⟨_,rfl⟩
 have hq1:RdL b w w2 l1:=by rw [HL1.out];exact hr2
 clear hr2
 obtain ⟨f1,HF1⟩:∃ f,Hid (f=Pl.fst l1):=⟨_,rfl⟩
 go_wp2_with fail
 refine (num_get b hb l1 w _ hg hq1).mono ?_
 rintro e w3 (⟨hs1,rfl,hr3⟩ | ⟨hs1,⟨t1,v1,rfl⟩,hr3⟩)
 rotate_left
 ·refine ⟨rfl,?_⟩
  show TakePost b w 89 4 r _ _
  unfold TakePost
  rw [← HL0.out,readN_step HS0.out,← HL1.out,readN_stop hs1]
  exact ⟨⟨t1,v1,rfl⟩,hr3⟩
 rw [← HF1.out]
 have HS1:=hide hs1
 clear hs1 hq1
 obtain ⟨l2,HL2⟩:∃ l,Hid (l=l1.drop (Pl.snd l1)):=⟨_,rfl⟩
 have hq2:RdL b w w3 l2:=by rw [HL2.out];exact hr3
 clear hr3
 obtain ⟨f2,HF2⟩:∃ f,Hid (f=Pl.fst l2):=⟨_,rfl⟩
 go_wp2_with fail
 refine (num_get b hb l2 w _ hg hq2).mono ?_
 rintro e w4 (⟨hs2,rfl,hr4⟩ | ⟨hs2,⟨t2,v2,rfl⟩,hr4⟩)
 rotate_left
 ·refine ⟨rfl,?_⟩
  show TakePost b w 89 4 r _ _
  unfold TakePost
  rw [← HL0.out,readN_step HS0.out,← HL1.out,readN_step HS1.out,← HL2.out,readN_stop hs2]
  exact ⟨⟨t2,v2,rfl⟩,hr4⟩
 rw [← HF2.out]
 have HS2:=hide hs2
 clear hs2 hq2
 obtain ⟨l3,HL3⟩:∃ l,Hid (l=l2.drop (Pl.snd l2)):=⟨_,rfl⟩
 have hq3:RdL b w w4 l3:=by rw [HL3.out];exact hr4
 clear hr4
 obtain ⟨f3,HF3⟩:∃ f,Hid (f=Pl.fst l3):=⟨_,rfl⟩
 go_wp2_with fail
 refine (num_get b hb l3 w _ hg hq3).mono ?_
 rintro e w5 (⟨hs3,rfl,hr5⟩ | ⟨hs3,⟨t3,v3,rfl⟩,hr5⟩)
 rotate_left
 ·refine ⟨rfl,?_⟩
  show TakePost b w 89 4 r _ _
  unfold TakePost
  rw [← HL0.out,readN_step HS0.out,← HL1.out,readN_step HS1.out,← HL2.out,readN_step HS2.out,← HL3.out,readN_stop hs3]
  exact ⟨⟨t3,v3,rfl⟩,hr5⟩
 rw [← HF3.out]
 have HS3:=hide hs3
 clear hs3 hq3
 go_wp2_with fail
 go_ret
 unfold TakePost
 rw [← HL0.out,readN_step HS0.out,← HL1.out,readN_step HS1.out,← HL2.out,readN_step HS2.out,← HL3.out,readN_step HS3.out]
 simp only [Pl.readN,Option.map_some,← HF0.out,← HF1.out,← HF2.out,← HF3.out]
 exact ⟨rfl,hr5⟩
set_option maxHeartbeats 800000 in
theorem take_Split (b:Nat) (hb:4≤b) (r:List UInt8) (w w0:World) (hg:Gl w) (hr0:RdL b w w0 (3 :: r)) :
  Calls Tryz.prog 45 #[.pointer (some ⟨b,0,none⟩)] w0 (TakePost b w 92 3 r):=by
 have HB:=hide (byte_get' b 3 r w w0 hr0)
 rw [show ((3:UInt8).toNat:Int)=3 from rfl] at HB
 clear hr0
 go_enter Tryz.func45,Tryz.ntmps45
 go_wp2_with fail
 refine (HB.out).mono ?_
 rintro e w1 ⟨rfl,hr1⟩
 obtain ⟨l0,HL0⟩:∃ l,Hid (l=r):=⟨_,rfl⟩
 have hq0:RdL b w w1 l0:=by rw [HL0.out];exact hr1
 clear hr1
 obtain ⟨f0,HF0⟩:∃ f,Hid (f=Pl.fst l0):=⟨_,rfl⟩
 go_wp2_with fail
 refine (num_get b hb l0 w _ hg hq0).mono ?_
 rintro e w2 (⟨hs0,rfl,hr2⟩ | ⟨hs0,⟨t0,v0,rfl⟩,hr2⟩)
 rotate_left
 ·refine ⟨rfl,?_⟩
  show TakePost b w 92 3 r _ _
  unfold TakePost
  rw [← HL0.out,readN_stop hs0]
  exact ⟨⟨t0,v0,rfl⟩,hr2⟩
 rw [← HF0.out]
 have HS0:=hide hs0
 clear hs0 hq0
 obtain ⟨l1,HL1⟩:∃ l,Hid (l=l0.drop (Pl.snd l0)):=⟨_,rfl⟩
 have hq1:RdL b w w2 l1:=by rw [HL1.out];exact hr2
 clear hr2
 obtain ⟨f1,HF1⟩:∃ f,Hid (f=Pl.fst l1):=⟨_,rfl⟩
 go_wp2_with fail
 refine (num_get b hb l1 w _ hg hq1).mono ?_
 rintro e w3 (⟨hs1,rfl,hr3⟩ | ⟨hs1,⟨t1,v1,rfl⟩,hr3⟩)
 rotate_left
 ·refine ⟨rfl,?_⟩
  show TakePost b w 92 3 r _ _
  unfold TakePost
  rw [← HL0.out,readN_step HS0.out,← HL1.out,readN_stop hs1]
  exact ⟨⟨t1,v1,rfl⟩,hr3⟩
 rw [← HF1.out]
 have HS1:=hide hs1
 clear hs1 hq1
 obtain ⟨l2,HL2⟩:∃ l,Hid (l=l1.drop (Pl.snd l1)):=⟨_,rfl⟩
 have hq2:RdL b w w3 l2:=by rw [HL2.out];exact hr3
 clear hr3
 obtain ⟨f2,HF2⟩:∃ f,Hid (f=Pl.fst l2):=⟨_,rfl⟩
 go_wp2_with fail
 refine (num_get b hb l2 w _ hg hq2).mono ?_
 rintro e w4 (⟨hs2,rfl,hr4⟩ | ⟨hs2,⟨t2,v2,rfl⟩,hr4⟩)
 rotate_left
 ·refine ⟨rfl,?_⟩
  show TakePost b w 92 3 r _ _
  unfold TakePost
  rw [← HL0.out,readN_step HS0.out,← HL1.out,readN_step HS1.out,← HL2.out,readN_stop hs2]
  exact ⟨⟨t2,v2,rfl⟩,hr4⟩
 rw [← HF2.out]
 have HS2:=hide hs2
 clear hs2 hq2
 go_wp2_with fail
 go_ret
 unfold TakePost
 rw [← HL0.out,readN_step HS0.out,← HL1.out,readN_step HS1.out,← HL2.out,readN_step HS2.out]
 simp only [Pl.readN,Option.map_some,← HF0.out,← HF1.out,← HF2.out]
 exact ⟨rfl,hr4⟩
set_option maxHeartbeats 800000 in
theorem take_Merge (b:Nat) (hb:4≤b) (r:List UInt8) (w w0:World) (hg:Gl w) (hr0:RdL b w w0 (4 :: r)) :
  Calls Tryz.prog 45 #[.pointer (some ⟨b,0,none⟩)] w0 (TakePost b w 95 3 r):=by
 have HB:=hide (byte_get' b 4 r w w0 hr0)
 rw [show ((4:UInt8).toNat:Int)=4 from rfl] at HB
 clear hr0
 go_enter Tryz.func45,Tryz.ntmps45
 go_wp2_with fail
 refine (HB.out).mono ?_
 rintro e w1 ⟨rfl,hr1⟩
 obtain ⟨l0,HL0⟩:∃ l,Hid (l=r):=⟨_,rfl⟩
 have hq0:RdL b w w1 l0:=by rw [HL0.out];exact hr1
 clear hr1
 obtain ⟨f0,HF0⟩:∃ f,Hid (f=Pl.fst l0):=⟨_,rfl⟩
 go_wp2_with fail
 refine (num_get b hb l0 w _ hg hq0).mono ?_
 rintro e w2 (⟨hs0,rfl,hr2⟩ | ⟨hs0,⟨t0,v0,rfl⟩,hr2⟩)
 rotate_left
 ·refine ⟨rfl,?_⟩
  show TakePost b w 95 3 r _ _
  unfold TakePost
  rw [← HL0.out,readN_stop hs0]
  exact ⟨⟨t0,v0,rfl⟩,hr2⟩
 rw [← HF0.out]
 have HS0:=hide hs0
 clear hs0 hq0
 obtain ⟨l1,HL1⟩:∃ l,Hid (l=l0.drop (Pl.snd l0)):=⟨_,rfl⟩
 have hq1:RdL b w w2 l1:=by rw [HL1.out];exact hr2
 clear hr2
 obtain ⟨f1,HF1⟩:∃ f,Hid (f=Pl.fst l1):=⟨_,rfl⟩
 go_wp2_with fail
 refine (num_get b hb l1 w _ hg hq1).mono ?_
 rintro e w3 (⟨hs1,rfl,hr3⟩ | ⟨hs1,⟨t1,v1,rfl⟩,hr3⟩)
 rotate_left
 ·refine ⟨rfl,?_⟩
  show TakePost b w 95 3 r _ _
  unfold TakePost
  rw [← HL0.out,readN_step HS0.out,← HL1.out,readN_stop hs1]
  exact ⟨⟨t1,v1,rfl⟩,hr3⟩
 rw [← HF1.out]
 have HS1:=hide hs1
 clear hs1 hq1
 obtain ⟨l2,HL2⟩:∃ l,Hid (l=l1.drop (Pl.snd l1)):=⟨_,rfl⟩
 have hq2:RdL b w w3 l2:=by rw [HL2.out];exact hr3
 clear hr3
 obtain ⟨f2,HF2⟩:∃ f,Hid (f=Pl.fst l2):=⟨_,rfl⟩
 go_wp2_with fail
 refine (num_get b hb l2 w _ hg hq2).mono ?_
 rintro e w4 (⟨hs2,rfl,hr4⟩ | ⟨hs2,⟨t2,v2,rfl⟩,hr4⟩)
 rotate_left
 ·refine ⟨rfl,?_⟩
  show TakePost b w 95 3 r _ _
  unfold TakePost
  rw [← HL0.out,readN_step HS0.out,← HL1.out,readN_step HS1.out,← HL2.out,readN_stop hs2]
  exact ⟨⟨t2,v2,rfl⟩,hr4⟩
 rw [← HF2.out]
 have HS2:=hide hs2
 clear hs2 hq2
 go_wp2_with fail
 go_ret
 unfold TakePost
 rw [← HL0.out,readN_step HS0.out,← HL1.out,readN_step HS1.out,← HL2.out,readN_step HS2.out]
 simp only [Pl.readN,Option.map_some,← HF0.out,← HF1.out,← HF2.out]
 exact ⟨rfl,hr4⟩
set_option maxHeartbeats 800000 in
theorem take_Order (b:Nat) (hb:4≤b) (r:List UInt8) (w w0:World) (hg:Gl w) (hr0:RdL b w w0 (5 :: r)) :
  Calls Tryz.prog 45 #[.pointer (some ⟨b,0,none⟩)] w0 (TakePost b w 98 5 r):=by
 have HB:=hide (byte_get' b 5 r w w0 hr0)
 rw [show ((5:UInt8).toNat:Int)=5 from rfl] at HB
 clear hr0
 go_enter Tryz.func45,Tryz.ntmps45
 go_wp2_with fail
 refine (HB.out).mono ?_
 rintro e w1 ⟨rfl,hr1⟩
 obtain ⟨l0,HL0⟩:∃ l,Hid (l=r):=⟨_,rfl⟩
 have hq0:RdL b w w1 l0:=by rw [HL0.out];exact hr1
 clear hr1
 obtain ⟨f0,HF0⟩:∃ f,Hid (f=Pl.fst l0):=⟨_,rfl⟩
 go_wp2_with fail
 refine (num_get b hb l0 w _ hg hq0).mono ?_
 rintro e w2 (⟨hs0,rfl,hr2⟩ | ⟨hs0,⟨t0,v0,rfl⟩,hr2⟩)
 rotate_left
 ·refine ⟨rfl,?_⟩
  show TakePost b w 98 5 r _ _
  unfold TakePost
  rw [← HL0.out,readN_stop hs0]
  exact ⟨⟨t0,v0,rfl⟩,hr2⟩
 rw [← HF0.out]
 have HS0:=hide hs0
 clear hs0 hq0
 obtain ⟨l1,HL1⟩:∃ l,Hid (l=l0.drop (Pl.snd l0)):=⟨_,rfl⟩
 have hq1:RdL b w w2 l1:=by rw [HL1.out];exact hr2
 clear hr2
 obtain ⟨f1,HF1⟩:∃ f,Hid (f=Pl.fst l1):=⟨_,rfl⟩
 go_wp2_with fail
 refine (num_get b hb l1 w _ hg hq1).mono ?_
 rintro e w3 (⟨hs1,rfl,hr3⟩ | ⟨hs1,⟨t1,v1,rfl⟩,hr3⟩)
 rotate_left
 ·refine ⟨rfl,?_⟩
  show TakePost b w 98 5 r _ _
  unfold TakePost
  rw [← HL0.out,readN_step HS0.out,← HL1.out,readN_stop hs1]
  exact ⟨⟨t1,v1,rfl⟩,hr3⟩
 rw [← HF1.out]
 have HS1:=hide hs1
 clear hs1 hq1
 obtain ⟨l2,HL2⟩:∃ l,Hid (l=l1.drop (Pl.snd l1)):=⟨_,rfl⟩
 have hq2:RdL b w w3 l2:=by rw [HL2.out];exact hr3
 clear hr3
 obtain ⟨f2,HF2⟩:∃ f,Hid (f=Pl.fst l2):=⟨_,rfl⟩
 go_wp2_with fail
 refine (num_get b hb l2 w _ hg hq2).mono ?_
 rintro e w4 (⟨hs2,rfl,hr4⟩ | ⟨hs2,⟨t2,v2,rfl⟩,hr4⟩)
 rotate_left
 ·refine ⟨rfl,?_⟩
  show TakePost b w 98 5 r _ _
  unfold TakePost
  rw [← HL0.out,readN_step HS0.out,← HL1.out,readN_step HS1.out,← HL2.out,readN_stop hs2]
  exact ⟨⟨t2,v2,rfl⟩,hr4⟩
 rw [← HF2.out]
 have HS2:=hide hs2
 clear hs2 hq2
 obtain ⟨l3,HL3⟩:∃ l,Hid (l=l2.drop (Pl.snd l2)):=⟨_,rfl⟩
 have hq3:RdL b w w4 l3:=by rw [HL3.out];exact hr4
 clear hr4
 obtain ⟨f3,HF3⟩:∃ f,Hid (f=Pl.fst l3):=⟨_,rfl⟩
 go_wp2_with fail
 refine (num_get b hb l3 w _ hg hq3).mono ?_
 rintro e w5 (⟨hs3,rfl,hr5⟩ | ⟨hs3,⟨t3,v3,rfl⟩,hr5⟩)
 rotate_left
 ·refine ⟨rfl,?_⟩
  show TakePost b w 98 5 r _ _
  unfold TakePost
  rw [← HL0.out,readN_step HS0.out,← HL1.out,readN_step HS1.out,← HL2.out,readN_step HS2.out,← HL3.out,readN_stop hs3]
  exact ⟨⟨t3,v3,rfl⟩,hr5⟩
 rw [← HF3.out]
 have HS3:=hide hs3
 clear hs3 hq3
 obtain ⟨l4,HL4⟩:∃ l,Hid (l=l3.drop (Pl.snd l3)):=⟨_,rfl⟩
 have hq4:RdL b w w5 l4:=by rw [HL4.out];exact hr5
 clear hr5
 obtain ⟨f4,HF4⟩:∃ f,Hid (f=Pl.fst l4):=⟨_,rfl⟩
 go_wp2_with fail
 refine (num_get b hb l4 w _ hg hq4).mono ?_
 rintro e w6 (⟨hs4,rfl,hr6⟩ | ⟨hs4,⟨t4,v4,rfl⟩,hr6⟩)
 rotate_left
 ·refine ⟨rfl,?_⟩
  show TakePost b w 98 5 r _ _
  unfold TakePost
  rw [← HL0.out,readN_step HS0.out,← HL1.out,readN_step HS1.out,← HL2.out,readN_step HS2.out,← HL3.out,readN_step HS3.out,← HL4.out,readN_stop hs4]
  exact ⟨⟨t4,v4,rfl⟩,hr6⟩
 rw [← HF4.out]
 have HS4:=hide hs4
 clear hs4 hq4
 go_wp2_with fail
 go_ret
 unfold TakePost
 rw [← HL0.out,readN_step HS0.out,← HL1.out,readN_step HS1.out,← HL2.out,readN_step HS2.out,← HL3.out,readN_step HS3.out,← HL4.out,readN_step HS4.out]
 simp only [Pl.readN,Option.map_some,← HF0.out,← HF1.out,← HF2.out,← HF3.out,← HF4.out]
 exact ⟨rfl,hr6⟩
set_option maxHeartbeats 800000 in
theorem take_Cancel (b:Nat) (hb:4≤b) (r:List UInt8) (w w0:World) (hg:Gl w) (hr0:RdL b w w0 (6 :: r)) :
  Calls Tryz.prog 45 #[.pointer (some ⟨b,0,none⟩)] w0 (TakePost b w 101 1 r):=by
 have HB:=hide (byte_get' b 6 r w w0 hr0)
 rw [show ((6:UInt8).toNat:Int)=6 from rfl] at HB
 clear hr0
 go_enter Tryz.func45,Tryz.ntmps45
 go_wp2_with fail
 refine (HB.out).mono ?_
 rintro e w1 ⟨rfl,hr1⟩
 obtain ⟨l0,HL0⟩:∃ l,Hid (l=r):=⟨_,rfl⟩
 have hq0:RdL b w w1 l0:=by rw [HL0.out];exact hr1
 clear hr1
 obtain ⟨f0,HF0⟩:∃ f,Hid (f=Pl.fst l0):=⟨_,rfl⟩
 go_wp2_with fail
 refine (num_get b hb l0 w _ hg hq0).mono ?_
 rintro e w2 (⟨hs0,rfl,hr2⟩ | ⟨hs0,⟨t0,v0,rfl⟩,hr2⟩)
 rotate_left
 ·refine ⟨rfl,?_⟩
  show TakePost b w 101 1 r _ _
  unfold TakePost
  rw [← HL0.out,readN_stop hs0]
  exact ⟨⟨t0,v0,rfl⟩,hr2⟩
 rw [← HF0.out]
 have HS0:=hide hs0
 clear hs0 hq0
 go_wp2_with fail
 go_ret
 unfold TakePost
 rw [← HL0.out,readN_step HS0.out]
 simp only [Pl.readN,Option.map_some,← HF0.out]
 exact ⟨rfl,hr2⟩
set_option maxHeartbeats 800000 in
theorem take_Ship (b:Nat) (hb:4≤b) (r:List UInt8) (w w0:World) (hg:Gl w) (hr0:RdL b w w0 (7 :: r)) :
  Calls Tryz.prog 45 #[.pointer (some ⟨b,0,none⟩)] w0 (TakePost b w 103 1 r):=by
 have HB:=hide (byte_get' b 7 r w w0 hr0)
 rw [show ((7:UInt8).toNat:Int)=7 from rfl] at HB
 clear hr0
 go_enter Tryz.func45,Tryz.ntmps45
 go_wp2_with fail
 refine (HB.out).mono ?_
 rintro e w1 ⟨rfl,hr1⟩
 obtain ⟨l0,HL0⟩:∃ l,Hid (l=r):=⟨_,rfl⟩
 have hq0:RdL b w w1 l0:=by rw [HL0.out];exact hr1
 clear hr1
 obtain ⟨f0,HF0⟩:∃ f,Hid (f=Pl.fst l0):=⟨_,rfl⟩
 go_wp2_with fail
 refine (num_get b hb l0 w _ hg hq0).mono ?_
 rintro e w2 (⟨hs0,rfl,hr2⟩ | ⟨hs0,⟨t0,v0,rfl⟩,hr2⟩)
 rotate_left
 ·refine ⟨rfl,?_⟩
  show TakePost b w 103 1 r _ _
  unfold TakePost
  rw [← HL0.out,readN_stop hs0]
  exact ⟨⟨t0,v0,rfl⟩,hr2⟩
 rw [← HF0.out]
 have HS0:=hide hs0
 clear hs0 hq0
 go_wp2_with fail
 go_ret
 unfold TakePost
 rw [← HL0.out,readN_step HS0.out]
 simp only [Pl.readN,Option.map_some,← HF0.out]
 exact ⟨rfl,hr2⟩
set_option maxHeartbeats 800000 in
theorem take_Recall (b:Nat) (hb:4≤b) (r:List UInt8) (w w0:World) (hg:Gl w) (hr0:RdL b w w0 (8 :: r)) :
  Calls Tryz.prog 45 #[.pointer (some ⟨b,0,none⟩)] w0 (TakePost b w 106 2 r):=by
 have HB:=hide (byte_get' b 8 r w w0 hr0)
 rw [show ((8:UInt8).toNat:Int)=8 from rfl] at HB
 clear hr0
 go_enter Tryz.func45,Tryz.ntmps45
 go_wp2_with fail
 refine (HB.out).mono ?_
 rintro e w1 ⟨rfl,hr1⟩
 obtain ⟨l0,HL0⟩:∃ l,Hid (l=r):=⟨_,rfl⟩
 have hq0:RdL b w w1 l0:=by rw [HL0.out];exact hr1
 clear hr1
 obtain ⟨f0,HF0⟩:∃ f,Hid (f=Pl.fst l0):=⟨_,rfl⟩
 go_wp2_with fail
 refine (num_get b hb l0 w _ hg hq0).mono ?_
 rintro e w2 (⟨hs0,rfl,hr2⟩ | ⟨hs0,⟨t0,v0,rfl⟩,hr2⟩)
 rotate_left
 ·refine ⟨rfl,?_⟩
  show TakePost b w 106 2 r _ _
  unfold TakePost
  rw [← HL0.out,readN_stop hs0]
  exact ⟨⟨t0,v0,rfl⟩,hr2⟩
 rw [← HF0.out]
 have HS0:=hide hs0
 clear hs0 hq0
 obtain ⟨l1,HL1⟩:∃ l,Hid (l=l0.drop (Pl.snd l0)):=⟨_,rfl⟩
 have hq1:RdL b w w2 l1:=by rw [HL1.out];exact hr2
 clear hr2
 obtain ⟨f1,HF1⟩:∃ f,Hid (f=Pl.fst l1):=⟨_,rfl⟩
 go_wp2_with fail
 refine (num_get b hb l1 w _ hg hq1).mono ?_
 rintro e w3 (⟨hs1,rfl,hr3⟩ | ⟨hs1,⟨t1,v1,rfl⟩,hr3⟩)
 rotate_left
 ·refine ⟨rfl,?_⟩
  show TakePost b w 106 2 r _ _
  unfold TakePost
  rw [← HL0.out,readN_step HS0.out,← HL1.out,readN_stop hs1]
  exact ⟨⟨t1,v1,rfl⟩,hr3⟩
 rw [← HF1.out]
 have HS1:=hide hs1
 clear hs1 hq1
 go_wp2_with fail
 go_ret
 unfold TakePost
 rw [← HL0.out,readN_step HS0.out,← HL1.out,readN_step HS1.out]
 simp only [Pl.readN,Option.map_some,← HF0.out,← HF1.out]
 exact ⟨rfl,hr3⟩
set_option maxHeartbeats 800000 in
theorem take_Release (b:Nat) (hb:4≤b) (r:List UInt8) (w w0:World) (hg:Gl w) (hr0:RdL b w w0 (9 :: r)) :
  Calls Tryz.prog 45 #[.pointer (some ⟨b,0,none⟩)] w0 (TakePost b w 108 2 r):=by
 have HB:=hide (byte_get' b 9 r w w0 hr0)
 rw [show ((9:UInt8).toNat:Int)=9 from rfl] at HB
 clear hr0
 go_enter Tryz.func45,Tryz.ntmps45
 go_wp2_with fail
 refine (HB.out).mono ?_
 rintro e w1 ⟨rfl,hr1⟩
 obtain ⟨l0,HL0⟩:∃ l,Hid (l=r):=⟨_,rfl⟩
 have hq0:RdL b w w1 l0:=by rw [HL0.out];exact hr1
 clear hr1
 obtain ⟨f0,HF0⟩:∃ f,Hid (f=Pl.fst l0):=⟨_,rfl⟩
 go_wp2_with fail
 refine (num_get b hb l0 w _ hg hq0).mono ?_
 rintro e w2 (⟨hs0,rfl,hr2⟩ | ⟨hs0,⟨t0,v0,rfl⟩,hr2⟩)
 rotate_left
 ·refine ⟨rfl,?_⟩
  show TakePost b w 108 2 r _ _
  unfold TakePost
  rw [← HL0.out,readN_stop hs0]
  exact ⟨⟨t0,v0,rfl⟩,hr2⟩
 rw [← HF0.out]
 have HS0:=hide hs0
 clear hs0 hq0
 obtain ⟨l1,HL1⟩:∃ l,Hid (l=l0.drop (Pl.snd l0)):=⟨_,rfl⟩
 have hq1:RdL b w w2 l1:=by rw [HL1.out];exact hr2
 clear hr2
 obtain ⟨f1,HF1⟩:∃ f,Hid (f=Pl.fst l1):=⟨_,rfl⟩
 go_wp2_with fail
 refine (num_get b hb l1 w _ hg hq1).mono ?_
 rintro e w3 (⟨hs1,rfl,hr3⟩ | ⟨hs1,⟨t1,v1,rfl⟩,hr3⟩)
 rotate_left
 ·refine ⟨rfl,?_⟩
  show TakePost b w 108 2 r _ _
  unfold TakePost
  rw [← HL0.out,readN_step HS0.out,← HL1.out,readN_stop hs1]
  exact ⟨⟨t1,v1,rfl⟩,hr3⟩
 rw [← HF1.out]
 have HS1:=hide hs1
 clear hs1 hq1
 go_wp2_with fail
 go_ret
 unfold TakePost
 rw [← HL0.out,readN_step HS0.out,← HL1.out,readN_step HS1.out]
 simp only [Pl.readN,Option.map_some,← HF0.out,← HF1.out]
 exact ⟨rfl,hr3⟩
set_option maxHeartbeats 800000 in
theorem take_Scrap (b:Nat) (hb:4≤b) (r:List UInt8) (w w0:World) (hg:Gl w) (hr0:RdL b w w0 (10 :: r)) :
  Calls Tryz.prog 45 #[.pointer (some ⟨b,0,none⟩)] w0 (TakePost b w 111 2 r):=by
 have HB:=hide (byte_get' b 10 r w w0 hr0)
 rw [show ((10:UInt8).toNat:Int)=10 from rfl] at HB
 clear hr0
 go_enter Tryz.func45,Tryz.ntmps45
 go_wp2_with fail
 refine (HB.out).mono ?_
 rintro e w1 ⟨rfl,hr1⟩
 obtain ⟨l0,HL0⟩:∃ l,Hid (l=r):=⟨_,rfl⟩
 have hq0:RdL b w w1 l0:=by rw [HL0.out];exact hr1
 clear hr1
 obtain ⟨f0,HF0⟩:∃ f,Hid (f=Pl.fst l0):=⟨_,rfl⟩
 go_wp2_with fail
 refine (num_get b hb l0 w _ hg hq0).mono ?_
 rintro e w2 (⟨hs0,rfl,hr2⟩ | ⟨hs0,⟨t0,v0,rfl⟩,hr2⟩)
 rotate_left
 ·refine ⟨rfl,?_⟩
  show TakePost b w 111 2 r _ _
  unfold TakePost
  rw [← HL0.out,readN_stop hs0]
  exact ⟨⟨t0,v0,rfl⟩,hr2⟩
 rw [← HF0.out]
 have HS0:=hide hs0
 clear hs0 hq0
 obtain ⟨l1,HL1⟩:∃ l,Hid (l=l0.drop (Pl.snd l0)):=⟨_,rfl⟩
 have hq1:RdL b w w2 l1:=by rw [HL1.out];exact hr2
 clear hr2
 obtain ⟨f1,HF1⟩:∃ f,Hid (f=Pl.fst l1):=⟨_,rfl⟩
 go_wp2_with fail
 refine (num_get b hb l1 w _ hg hq1).mono ?_
 rintro e w3 (⟨hs1,rfl,hr3⟩ | ⟨hs1,⟨t1,v1,rfl⟩,hr3⟩)
 rotate_left
 ·refine ⟨rfl,?_⟩
  show TakePost b w 111 2 r _ _
  unfold TakePost
  rw [← HL0.out,readN_step HS0.out,← HL1.out,readN_stop hs1]
  exact ⟨⟨t1,v1,rfl⟩,hr3⟩
 rw [← HF1.out]
 have HS1:=hide hs1
 clear hs1 hq1
 go_wp2_with fail
 go_ret
 unfold TakePost
 rw [← HL0.out,readN_step HS0.out,← HL1.out,readN_step HS1.out]
 simp only [Pl.readN,Option.map_some,← HF0.out,← HF1.out]
 exact ⟨rfl,hr3⟩
set_option maxHeartbeats 800000 in
theorem take_Look (b:Nat) (hb:4≤b) (r:List UInt8) (w w0:World) (hg:Gl w) (hr0:RdL b w w0 (11 :: r)) :
  Calls Tryz.prog 45 #[.pointer (some ⟨b,0,none⟩)] w0 (TakePost b w 114 1 r):=by
 have HB:=hide (byte_get' b 11 r w w0 hr0)
 rw [show ((11:UInt8).toNat:Int)=11 from rfl] at HB
 clear hr0
 go_enter Tryz.func45,Tryz.ntmps45
 go_wp2_with fail
 refine (HB.out).mono ?_
 rintro e w1 ⟨rfl,hr1⟩
 obtain ⟨l0,HL0⟩:∃ l,Hid (l=r):=⟨_,rfl⟩
 have hq0:RdL b w w1 l0:=by rw [HL0.out];exact hr1
 clear hr1
 obtain ⟨f0,HF0⟩:∃ f,Hid (f=Pl.fst l0):=⟨_,rfl⟩
 go_wp2_with fail
 refine (num_get b hb l0 w _ hg hq0).mono ?_
 rintro e w2 (⟨hs0,rfl,hr2⟩ | ⟨hs0,⟨t0,v0,rfl⟩,hr2⟩)
 rotate_left
 ·refine ⟨rfl,?_⟩
  show TakePost b w 114 1 r _ _
  unfold TakePost
  rw [← HL0.out,readN_stop hs0]
  exact ⟨⟨t0,v0,rfl⟩,hr2⟩
 rw [← HF0.out]
 have HS0:=hide hs0
 clear hs0 hq0
 go_wp2_with fail
 go_ret
 unfold TakePost
 rw [← HL0.out,readN_step HS0.out]
 simp only [Pl.readN,Option.map_some,← HF0.out]
 exact ⟨rfl,hr2⟩
set_option maxHeartbeats 800000 in
theorem take_Supply (b:Nat) (hb:4≤b) (r:List UInt8) (w w0:World) (hg:Gl w) (hr0:RdL b w w0 (12 :: r)) :
  Calls Tryz.prog 45 #[.pointer (some ⟨b,0,none⟩)] w0 (TakePost b w 117 2 r):=by
 have HB:=hide (byte_get' b 12 r w w0 hr0)
 rw [show ((12:UInt8).toNat:Int)=12 from rfl] at HB
 clear hr0
 go_enter Tryz.func45,Tryz.ntmps45
 go_wp2_with fail
 refine (HB.out).mono ?_
 rintro e w1 ⟨rfl,hr1⟩
 obtain ⟨l0,HL0⟩:∃ l,Hid (l=r):=⟨_,rfl⟩
 have hq0:RdL b w w1 l0:=by rw [HL0.out];exact hr1
 clear hr1
 obtain ⟨f0,HF0⟩:∃ f,Hid (f=Pl.fst l0):=⟨_,rfl⟩
 go_wp2_with fail
 refine (num_get b hb l0 w _ hg hq0).mono ?_
 rintro e w2 (⟨hs0,rfl,hr2⟩ | ⟨hs0,⟨t0,v0,rfl⟩,hr2⟩)
 rotate_left
 ·refine ⟨rfl,?_⟩
  show TakePost b w 117 2 r _ _
  unfold TakePost
  rw [← HL0.out,readN_stop hs0]
  exact ⟨⟨t0,v0,rfl⟩,hr2⟩
 rw [← HF0.out]
 have HS0:=hide hs0
 clear hs0 hq0
 obtain ⟨l1,HL1⟩:∃ l,Hid (l=l0.drop (Pl.snd l0)):=⟨_,rfl⟩
 have hq1:RdL b w w2 l1:=by rw [HL1.out];exact hr2
 clear hr2
 obtain ⟨f1,HF1⟩:∃ f,Hid (f=Pl.fst l1):=⟨_,rfl⟩
 go_wp2_with fail
 refine (num_get b hb l1 w _ hg hq1).mono ?_
 rintro e w3 (⟨hs1,rfl,hr3⟩ | ⟨hs1,⟨t1,v1,rfl⟩,hr3⟩)
 rotate_left
 ·refine ⟨rfl,?_⟩
  show TakePost b w 117 2 r _ _
  unfold TakePost
  rw [← HL0.out,readN_step HS0.out,← HL1.out,readN_stop hs1]
  exact ⟨⟨t1,v1,rfl⟩,hr3⟩
 rw [← HF1.out]
 have HS1:=hide hs1
 clear hs1 hq1
 go_wp2_with fail
 go_ret
 unfold TakePost
 rw [← HL0.out,readN_step HS0.out,← HL1.out,readN_step HS1.out]
 simp only [Pl.readN,Option.map_some,← HF0.out,← HF1.out]
 exact ⟨rfl,hr3⟩
end Go.Proofs.YtgcedalggnmooabGreatDoor
namespace Go.Proofs.YtgcedalggnmooabGreatDoor
open Go.RowKit
theorem take_empty (b:Nat) (hb:4≤b) (w w0:World) (hg:Gl w) (hr0:RdL b w w0 []) :
  Calls Tryz.prog 45 #[.pointer (some ⟨b,0,none⟩)] w0 (Broke b w):=by
 obtain ⟨t,ht,_,hr⟩:=hr0
 have hsz:t.size=0:=by
  have:t.data.toList.length=t.size:=by simp
  rw [ht] at this;exact this.symm
 have HB:=hide (byte_break b hb t hsz w w0 hg hr)
 go_enter Tryz.func45,Tryz.ntmps45
 go_wp2_with fail
 refine (HB.out).mono ?_
 rintro e w1 ⟨⟨t1,v1,rfl⟩,hr1⟩
 exact ⟨rfl,⟨t1,v1,rfl⟩,hr1⟩
set_option maxHeartbeats 800000 in
theorem take_other (b:Nat) (hb:4≤b) (c:UInt8) (hc:c.toNat=0∨13≤c.toNat) (r:List UInt8) (w w0:World) (hg:Gl w) (hr0:RdL b w w0 (c :: r)) :
  Calls Tryz.prog 45 #[.pointer (some ⟨b,0,none⟩)] w0 (Broke b w):=by
 have HB:=hide (byte_get' b c r w w0 hr0)
 clear hr0
 have hne:∀ k:Nat,1≤k→k≤12→((c.toNat:Int) == (k:Int))=false:=by
  intro k h1 h2;rw [beq_eq_false_iff_ne];omega
 have e1:=hne 1 (by omega) (by omega)
 have e2:=hne 2 (by omega) (by omega)
 have e3:=hne 3 (by omega) (by omega)
 have e4:=hne 4 (by omega) (by omega)
 have e5:=hne 5 (by omega) (by omega)
 have e6:=hne 6 (by omega) (by omega)
 have e7:=hne 7 (by omega) (by omega)
 have e8:=hne 8 (by omega) (by omega)
 have e9:=hne 9 (by omega) (by omega)
 have e10:=hne 10 (by omega) (by omega)
 have e11:=hne 11 (by omega) (by omega)
 have e12:=hne 12 (by omega) (by omega)
 simp only [Int.cast_ofNat_Int] at e1 e2 e3 e4 e5 e6 e7 e8 e9 e10 e11 e12
 clear hne
 go_enter Tryz.func45,Tryz.ntmps45
 go_wp2_with fail
 refine (HB.out).mono ?_
 rintro e w1 ⟨rfl,hr1⟩
 obtain ⟨t,ht,hts,hr⟩:=hr1
 obtain ⟨t0,v0,hg0⟩:=(hg.rd hr hb).1
 have hbl:(c.toNat:Int)<256:=by have:=UInt8.toNat_lt c;omega
 go_wp2_with fail
 exact ⟨rfl,⟨t0,v0,rfl⟩,t,hr⟩
set_option maxHeartbeats 400000 in
theorem end_ok (b:Nat) (w:World) (hc:w.cell? ⟨b,0,none⟩=some (.string ⟨#[]⟩)) :
  Calls Tryz.prog 46 #[.pointer (some ⟨b,0,none⟩)] w fun e w'=>e=.returned (.tuple #[])∧w'=w:=by
 go_enter Tryz.func46,Tryz.ntmps46
 go_wp2_with fail
 go_end0
 exact ⟨rfl,rfl⟩
set_option maxHeartbeats 400000 in
theorem end_no (b:Nat) (s:ByteArray) (hs:s.toList.isEmpty=false) (w:World) (hc:w.cell? ⟨b,0,none⟩=some (.string s)) (t:TypeId) (v:Value) (hg:w.cell? ⟨3,0,none⟩=some (.iface t v)) :
  Calls Tryz.prog 46 #[.pointer (some ⟨b,0,none⟩)] w fun e w'=>e=.panicked [{ v:=.iface t v,recovered:=false }]∧w'=w:=by
 go_enter Tryz.func46,Tryz.ntmps46
 go_wp2_with fail
 exact ⟨rfl,rfl,rfl⟩
theorem catch_panicking (p q:Addr) (x:Value) (y:Bool) (u:TypeId) (pv:Value) (older:List PanicEntry) (w:World) (hc:w.cell? p=some x) (hz:w.frozen? p=false) (hc2:(w.setCell p .nilIface).cell? q=some (.bool y)) (hz2:w.frozen? q=false) :
  CallsD Tryz.prog 43 #[.pointer (some p),.pointer (some q)] (.panicking ({ v:=.iface u pv,recovered:=false } :: older)) w fun e u' w' =>
   e=.returned (.tuple #[])∧u'=.panicking ({ v:=.iface u pv,recovered:=true } :: older)∧w'=(w.setCell p .nilIface).setCell q (.bool false):=by
 refine callsD_of_wpS Tryz.func43 rfl fun c₀ cs hu=>?_
 apply wpS_seq
 apply wpS_region
 simp [wpOpsS,go_sem,recoverD,hu,Tryz.ntmps43,Exit.thenS]
 refine wpS_cond (t:=true) (by simp [Act.eval,Array.replicate]) ?_
 simp only [if_true]
 apply wpS_region
 simp [wpOpsS,go_sem,hc,hz,hc2,hz2,bodyPostS,results,Tryz.results43]
theorem catch_idle (p q:Addr) (w:World) :
  CallsD Tryz.prog 43 #[.pointer (some p),.pointer (some q)] .returning w fun e u' w'=>e=.returned (.tuple #[])∧u'=.returning∧w'=w:=by
 refine callsD_of_wpS Tryz.func43 rfl fun c₀ cs hu=>?_
 apply wpS_seq
 apply wpS_region
 simp [wpOpsS,go_sem,recoverD,hu,Tryz.ntmps43,Exit.thenS]
 refine wpS_cond (t:=false) (by simp [Act.eval,Array.replicate]) ?_
 simp only [Bool.false_eq_true,if_false]
 refine wpS_of_wp (wp_skip ?_)
 cases c₀
 simp_all [bodyPostS,results,Tryz.results43]
end Go.Proofs.YtgcedalggnmooabGreatDoor
namespace Go.Proofs.YtgcedalggnmooabGreatDoor
open Go.RowKit
theorem Gl.below {w w':World} (h:Gl w) (k:Below w.heap.size w w'):Gl w':=by
 obtain ⟨⟨t0,v0,h0⟩,⟨t1,v1,h1⟩,h2⟩:=h
 exact ⟨⟨t0,v0,by rw [k.cell (by simp;omega)];exact h0⟩,⟨t1,v1,by rw [k.cell (by simp;omega)];exact h1⟩,Nat.le_trans h2 k.size⟩
abbrev laid3 (w:World) (s:ByteArray):World:=((w.alloc (.cells #[.nilIface] 67)).alloc (.cells #[.bool false] 4)).alloc (.cells #[.string s] 147)
theorem laid3_below (w:World) (s:ByteArray):Below w.heap.size w (laid3 w s) :=
 (((Below.refl _ _).alloc (Nat.le_refl _) _).alloc (by simp) _).alloc (by simp;omega) _
theorem laid3_rd (w:World) (s:ByteArray):Rd (w.heap.size+1+1) (laid3 w s) (laid3 w s) s:=Rd.refl (by
 show (((w.heap.push _).push _).push _)[w.heap.size+1+1]?=_
 rw [Array.getElem?_push,if_pos (by simp)])
theorem Rd.frozen_other {b:Nat} {w w':World} {s:ByteArray} (h:Rd b w w' s) (a:Addr) (ha:a.block≠b):w'.frozen? a=w.frozen? a:=World.frozen?_of_block (w:=w) (h.block a.block ha)
theorem laid3_h0 (w:World) (s:ByteArray):(laid3 w s).heap[w.heap.size]?=some (.cells #[.nilIface] 67 (0,0)):=by
 show (((w.heap.push _).push _).push _)[w.heap.size]?=_
 rw [Array.getElem?_push,if_neg (by simp;omega),Array.getElem?_push,if_neg (by simp),Array.getElem?_push,if_pos rfl]
theorem laid3_h1 (w:World) (s:ByteArray):(laid3 w s).heap[w.heap.size+1]?=some (.cells #[.bool false] 4 (0,0)):=by
 show (((w.heap.push _).push _).push _)[w.heap.size+1]?=_
 rw [Array.getElem?_push,if_neg (by simp),Array.getElem?_push,if_pos (by simp)]
theorem laid3_c0 (w:World) (s:ByteArray):(laid3 w s).cell? ⟨w.heap.size,0,none⟩=some .nilIface:=by unfold World.cell?;rw [laid3_h0];rfl
theorem laid3_f0 (w:World) (s:ByteArray):(laid3 w s).frozen? ⟨w.heap.size,0,none⟩=false:=by unfold World.frozen?;rw [laid3_h0];rfl
theorem laid3_c1 (w:World) (s:ByteArray):(laid3 w s).cell? ⟨w.heap.size+1,0,none⟩=some (.bool false):=by unfold World.cell?;rw [laid3_h1];rfl
theorem laid3_f1 (w:World) (s:ByteArray):(laid3 w s).frozen? ⟨w.heap.size+1,0,none⟩=false:=by unfold World.frozen?;rw [laid3_h1];rfl
set_option maxHeartbeats 800000 in
theorem read_broke (s:ByteArray) (w:World) (hg:Gl w)
  (HT:Hid (Calls Tryz.prog 45 #[.pointer (some ⟨w.heap.size+1+1,0,none⟩)] (laid3 w s) (Broke (w.heap.size+1+1) (laid3 w s)))) :
  Calls Tryz.prog 34 #[.string s] w fun e w'=>e=.returned (.tuple #[.nilIface,.bool false])∧Below w.heap.size w w':=by
 have hmf:∀ (fn:Fn) (first cap:Array Value) (w:World),(Instr.makeFunc fn first cap).run Tryz.prog w=.ok (.func fn first cap) w:=fun _ _ _ _=>rfl
 go_enter_defers Tryz.func34,Tryz.ntmps34
 go_wp2_with (first | (go_at_call 44;go_in) | fail)
 refine (HT.out).mono ?_
 rintro e w1 ⟨⟨t,v,rfl⟩,s1,hr1⟩
 refine leaves_cons (f:=43) (args:=#[.pointer (some ⟨w.heap.size,0,none⟩),.pointer (some ⟨w.heap.size+1,0,none⟩)]) (by simp) (by simp [go_sem]) ?_
 have c0:w1.cell? ⟨w.heap.size,0,none⟩=some .nilIface:=by rw [hr1.other _ (by simp;omega)];exact laid3_c0 w s
 have c1:w1.cell? ⟨w.heap.size+1,0,none⟩=some (.bool false):=by rw [hr1.other _ (by simp)];exact laid3_c1 w s
 have f0:w1.frozen? ⟨w.heap.size,0,none⟩=false:=by rw [hr1.frozen_other _ (by simp;omega)];exact laid3_f0 w s
 have f1:w1.frozen? ⟨w.heap.size+1,0,none⟩=false:=by rw [hr1.frozen_other _ (by simp)];exact laid3_f1 w s
 have c1':(w1.setCell ⟨w.heap.size,0,none⟩ .nilIface).cell? ⟨w.heap.size+1,0,none⟩=some (.bool false):=by
  rw [World.cell?_of_block (w:=w1) (Below.heap_setCell _ _ _ _ (by simp))];exact c1
 refine (catch_panicking ⟨w.heap.size,0,none⟩ ⟨w.heap.size+1,0,none⟩ .nilIface false t v [] w1 c0 f0 c1' f1).mono ?_
 rintro e u' w'' ⟨rfl,rfl,rfl⟩
 have hfin0:((w1.setCell ⟨w.heap.size,0,none⟩ .nilIface).setCell ⟨w.heap.size+1,0,none⟩ (.bool false)).cell? ⟨w.heap.size,0,none⟩=some .nilIface:=by
  rw [World.cell?_of_block (w:=(w1.setCell ⟨w.heap.size,0,none⟩ .nilIface)) (Below.heap_setCell _ _ _ _ (by simp)),World.cell?_setCell_same _ _ _ c0]
 have hfin1:((w1.setCell ⟨w.heap.size,0,none⟩ .nilIface).setCell ⟨w.heap.size+1,0,none⟩ (.bool false)).cell? ⟨w.heap.size+1,0,none⟩=some (.bool false):=World.cell?_setCell_same _ _ _ c1'
 have hbel:Below w.heap.size w ((w1.setCell ⟨w.heap.size,0,none⟩ .nilIface).setCell ⟨w.heap.size+1,0,none⟩ (.bool false)) :=
  (((laid3_below w s).trans (hr1.below (by omega))).setCell (by simp) _).setCell (by simp) _
 generalize ((w1.setCell ⟨w.heap.size,0,none⟩ .nilIface).setCell ⟨w.heap.size+1,0,none⟩ (.bool false))=W at *
 simp [Leaves,settle,results,Tryz.results34,go_sem,hfin0,hfin1,hbel]
set_option maxHeartbeats 800000 in
theorem read_ok (s:ByteArray) (w:World) (T:TypeId) (v:Value)
  (HT:Hid (Calls Tryz.prog 45 #[.pointer (some ⟨w.heap.size+1+1,0,none⟩)] (laid3 w s) fun e w'=>e=.returned (.iface T v)∧RdL (w.heap.size+1+1) (laid3 w s) w' [])) :
  Calls Tryz.prog 34 #[.string s] w fun e w'=>e=.returned (.tuple #[.iface T v,.bool true])∧Below w.heap.size w w':=by
 have hmf:∀ (fn:Fn) (first cap:Array Value) (w:World),(Instr.makeFunc fn first cap).run Tryz.prog w=.ok (.func fn first cap) w:=fun _ _ _ _=>rfl
 go_enter_defers Tryz.func34,Tryz.ntmps34
 go_wp2_with (first | (go_at_call 44;go_in) | fail)
 refine (HT.out).mono ?_
 rintro e w1 ⟨rfl,s1,hs1,_,hr1⟩
 have he:s1=⟨#[]⟩:=by
  apply ByteArray.ext
  apply Array.toList_inj.1
  rw [hs1]
 subst he
 have c0:w1.cell? ⟨w.heap.size,0,none⟩=some .nilIface:=by rw [hr1.other _ (by simp;omega)];exact laid3_c0 w s
 have c1:w1.cell? ⟨w.heap.size+1,0,none⟩=some (.bool false):=by rw [hr1.other _ (by simp)];exact laid3_c1 w s
 have f0:w1.frozen? ⟨w.heap.size,0,none⟩=false:=by rw [hr1.frozen_other _ (by simp;omega)];exact laid3_f0 w s
 have f1:w1.frozen? ⟨w.heap.size+1,0,none⟩=false:=by rw [hr1.frozen_other _ (by simp)];exact laid3_f1 w s
 have hcr:=hr1.cell
 have hbl0:Below w.heap.size w w1:=(laid3_below w s).trans (hr1.below (by omega))
 obtain ⟨W2,hW2⟩:∃ W2,W2=w1.setCell ⟨w.heap.size,0,none⟩ (.iface T v):=⟨_,rfl⟩
 have d0:W2.cell? ⟨w.heap.size,0,none⟩=some (.iface T v):=by rw [hW2];exact World.cell?_setCell_same _ _ _ c0
 have d1:W2.cell? ⟨w.heap.size+1,0,none⟩=some (.bool false):=by rw [hW2,World.cell?_of_block (w:=w1) (Below.heap_setCell _ _ _ _ (by simp))];exact c1
 have d2:W2.cell? ⟨w.heap.size+1+1,0,none⟩=some (.string ⟨#[]⟩):=by rw [hW2,World.cell?_of_block (w:=w1) (Below.heap_setCell _ _ _ _ (by simp;omega))];exact hcr
 have g0:W2.frozen? ⟨w.heap.size,0,none⟩=false:=by rw [hW2];simpa using f0
 have g1:W2.frozen? ⟨w.heap.size+1,0,none⟩=false:=by rw [hW2];simpa using f1
 have hbl:Below w.heap.size w W2:=by rw [hW2];exact hbl0.setCell (by simp) _
 have HE:=hide (end_ok (w.heap.size+1+1) W2 d2)
 rw [hW2] at HE
 go_wp2_with fail
 refine (HE.out).mono ?_
 rintro e w2 ⟨rfl,rfl⟩
 rw [← hW2]
 clear hW2 c0 c1 f0 f1 hcr hbl0 HE HT hs1 hr1
 go_wp2_with fail
 refine leaves_cons (f:=43) (args:=#[.pointer (some ⟨w.heap.size,0,none⟩),.pointer (some ⟨w.heap.size+1,0,none⟩)]) (by simp) (by simp [go_sem]) ?_
 refine (catch_idle ⟨w.heap.size,0,none⟩ ⟨w.heap.size+1,0,none⟩ _).mono ?_
 rintro e u' w'' ⟨rfl,rfl,rfl⟩
 have c1':(W2.setCell ⟨w.heap.size,0,none⟩ (.iface T v)).cell? ⟨w.heap.size+1,0,none⟩=some (.bool false):=by
  rw [World.cell?_of_block (w:=W2) (Below.heap_setCell _ _ _ _ (by simp))];exact d1
 have hfin0:((W2.setCell ⟨w.heap.size,0,none⟩ (.iface T v)).setCell ⟨w.heap.size+1,0,none⟩ (.bool true)).cell? ⟨w.heap.size,0,none⟩=some (.iface T v):=by
  rw [World.cell?_of_block (w:=(W2.setCell ⟨w.heap.size,0,none⟩ (.iface T v))) (Below.heap_setCell _ _ _ _ (by simp)),World.cell?_setCell_same _ _ _ d0]
 have hfin1:((W2.setCell ⟨w.heap.size,0,none⟩ (.iface T v)).setCell ⟨w.heap.size+1,0,none⟩ (.bool true)).cell? ⟨w.heap.size+1,0,none⟩=some (.bool true):=World.cell?_setCell_same _ _ _ c1'
 have hbel:Below w.heap.size w ((W2.setCell ⟨w.heap.size,0,none⟩ (.iface T v)).setCell ⟨w.heap.size+1,0,none⟩ (.bool true)) :=
  (hbl.setCell (by simp) _).setCell (by simp) _
 generalize ((W2.setCell ⟨w.heap.size,0,none⟩ (.iface T v)).setCell ⟨w.heap.size+1,0,none⟩ (.bool true))=W at *
 simp [Leaves,settle,results,Tryz.results34,go_sem,hfin0,hfin1,hbel]
set_option maxHeartbeats 800000 in
theorem read_rest (s:ByteArray) (w:World) (hg:Gl w) (rest:List UInt8) (hrest:rest≠[]) (T:TypeId) (v:Value)
  (HT:Hid (Calls Tryz.prog 45 #[.pointer (some ⟨w.heap.size+1+1,0,none⟩)] (laid3 w s) fun e w'=>e=.returned (.iface T v)∧RdL (w.heap.size+1+1) (laid3 w s) w' rest)) :
  Calls Tryz.prog 34 #[.string s] w fun e w'=>e=.returned (.tuple #[.nilIface,.bool false])∧Below w.heap.size w w':=by
 have hmf:∀ (fn:Fn) (first cap:Array Value) (w:World),(Instr.makeFunc fn first cap).run Tryz.prog w=.ok (.func fn first cap) w:=fun _ _ _ _=>rfl
 go_enter_defers Tryz.func34,Tryz.ntmps34
 go_wp2_with (first | (go_at_call 44;go_in) | fail)
 refine (HT.out).mono ?_
 rintro e w1 ⟨rfl,s1,hs1,_,hr1⟩
 have hs2:s1.toList.isEmpty=false:=by
  rw [ByteArray.toList_eq,hs1];cases rest with
  | nil=>exact absurd rfl hrest
  | cons=>rfl
 have c0:w1.cell? ⟨w.heap.size,0,none⟩=some .nilIface:=by rw [hr1.other _ (by simp;omega)];exact laid3_c0 w s
 have c1:w1.cell? ⟨w.heap.size+1,0,none⟩=some (.bool false):=by rw [hr1.other _ (by simp)];exact laid3_c1 w s
 have f0:w1.frozen? ⟨w.heap.size,0,none⟩=false:=by rw [hr1.frozen_other _ (by simp;omega)];exact laid3_f0 w s
 have f1:w1.frozen? ⟨w.heap.size+1,0,none⟩=false:=by rw [hr1.frozen_other _ (by simp)];exact laid3_f1 w s
 have hcr:=hr1.cell
 have hbl0:Below w.heap.size w w1:=(laid3_below w s).trans (hr1.below (by omega))
 obtain ⟨W2,hW2⟩:∃ W2,W2=w1.setCell ⟨w.heap.size,0,none⟩ (.iface T v):=⟨_,rfl⟩
 have d0:W2.cell? ⟨w.heap.size,0,none⟩=some (.iface T v):=by rw [hW2];exact World.cell?_setCell_same _ _ _ c0
 have d1:W2.cell? ⟨w.heap.size+1,0,none⟩=some (.bool false):=by rw [hW2,World.cell?_of_block (w:=w1) (Below.heap_setCell _ _ _ _ (by simp))];exact c1
 have d2:W2.cell? ⟨w.heap.size+1+1,0,none⟩=some (.string s1):=by rw [hW2,World.cell?_of_block (w:=w1) (Below.heap_setCell _ _ _ _ (by simp;omega))];exact hcr
 have g0:W2.frozen? ⟨w.heap.size,0,none⟩=false:=by rw [hW2];simpa using f0
 have g1:W2.frozen? ⟨w.heap.size+1,0,none⟩=false:=by rw [hW2];simpa using f1
 have hbl:Below w.heap.size w W2:=by rw [hW2];exact hbl0.setCell (by simp) _
 obtain ⟨t1,v1,hg1⟩:=(hg.below hbl).2.1
 have HE:=hide (end_no (w.heap.size+1+1) s1 hs2 W2 d2 t1 v1 hg1)
 rw [hW2] at HE
 go_wp2_with fail
 refine (HE.out).mono ?_
 rintro e w2 ⟨rfl,rfl⟩
 rw [← hW2]
 clear hW2 c0 c1 f0 f1 hcr hbl0 HE HT hs1 hr1
 refine leaves_cons (f:=43) (args:=#[.pointer (some ⟨w.heap.size,0,none⟩),.pointer (some ⟨w.heap.size+1,0,none⟩)]) (by simp) (by simp [go_sem]) ?_
 have c1':(W2.setCell ⟨w.heap.size,0,none⟩ .nilIface).cell? ⟨w.heap.size+1,0,none⟩=some (.bool false):=by
  rw [World.cell?_of_block (w:=W2) (Below.heap_setCell _ _ _ _ (by simp))];exact d1
 refine (catch_panicking ⟨w.heap.size,0,none⟩ ⟨w.heap.size+1,0,none⟩ (.iface T v) false t1 v1 [] W2 d0 g0 c1' g1).mono ?_
 rintro e u' w'' ⟨rfl,rfl,rfl⟩
 have hfin0:((W2.setCell ⟨w.heap.size,0,none⟩ .nilIface).setCell ⟨w.heap.size+1,0,none⟩ (.bool false)).cell? ⟨w.heap.size,0,none⟩=some .nilIface:=by
  rw [World.cell?_of_block (w:=(W2.setCell ⟨w.heap.size,0,none⟩ .nilIface)) (Below.heap_setCell _ _ _ _ (by simp)),World.cell?_setCell_same _ _ _ d0]
 have hfin1:((W2.setCell ⟨w.heap.size,0,none⟩ .nilIface).setCell ⟨w.heap.size+1,0,none⟩ (.bool false)).cell? ⟨w.heap.size+1,0,none⟩=some (.bool false):=World.cell?_setCell_same _ _ _ c1'
 have hbel:Below w.heap.size w ((W2.setCell ⟨w.heap.size,0,none⟩ .nilIface).setCell ⟨w.heap.size+1,0,none⟩ (.bool false)) :=
  (hbl.setCell (by simp) _).setCell (by simp) _
 generalize ((W2.setCell ⟨w.heap.size,0,none⟩ .nilIface).setCell ⟨w.heap.size+1,0,none⟩ (.bool false))=W at *
 simp [Leaves,settle,results,Tryz.results34,go_sem,hfin0,hfin1,hbel]
def tyOf:Nat→TypeId
 | 1=>86 | 2=>89 | 3=>92 | 4=>95 | 5=>98 | 6=>101 | 7=>103 | 8=>106 | 9=>108 | 10=>111 | 11=>114 | _=>117
def formOf (l:List UInt8):Option (Nat × List Nat) :=
 match l with
 | []=>none
 | c :: r=>if Pl.kindsL c.toNat=[] then none else
  match Pl.nums r with
  | none=>none
  | some ns=>if ns.length=(Pl.kindsL c.toNat).length then some (c.toNat,ns) else none
def ReadPost (w:World) (l:List UInt8) (e:Ending) (w':World):Prop :=
 Below w.heap.size w w' ∧
 match formOf l with
 | none=>e=.returned (.tuple #[.nilIface,.bool false])
 | some (c,ns)=>e=.returned (.tuple #[.iface (tyOf c) (.agg (I ns).toArray),.bool true])
theorem read_take (s:ByteArray) (hs:s.size≤2097152) (w:World) (hg:Gl w) (c:UInt8) (r:List UInt8) (hl:s.data.toList=c :: r) (n:Nat) (hn:(Pl.kindsL c.toNat).length=n) (hne:Pl.kindsL c.toNat≠[])
  (HT:Calls Tryz.prog 45 #[.pointer (some ⟨w.heap.size+1+1,0,none⟩)] (laid3 w s) (TakePost (w.heap.size+1+1) (laid3 w s) (tyOf c.toNat) n r)) :
  Calls Tryz.prog 34 #[.string s] w (ReadPost w s.data.toList):=by
 have hform:formOf s.data.toList=match Pl.nums r with
   | none=>none
   | some ns=>if ns.length=(Pl.kindsL c.toNat).length then some (c.toNat,ns) else none:=by
  rw [hl];simp only [formOf];rw [if_neg hne]
 cases hr:Pl.readN n r with
 | none =>
  have hnone:formOf s.data.toList=none:=by
   rw [hform]
   cases hq:Pl.nums r with
   | none=>rfl
   | some ns =>
    by_cases hlen:ns.length=(Pl.kindsL c.toNat).length
    ·have:=(Pl.readN_nums n r ns).2 ⟨hq,by omega⟩
     rw [hr] at this;cases this
    ·simp [hlen]
  refine (read_broke s w hg (HT.mono fun e w' h=>by unfold TakePost at h;rw [hr] at h;exact h)).mono ?_
  rintro e w' ⟨h1,h2⟩
  refine ⟨h2,?_⟩
  rw [hnone];exact h1
 | some p =>
  obtain ⟨ns,rest⟩:=p
  have HT':Hid (Calls Tryz.prog 45 #[.pointer (some ⟨w.heap.size+1+1,0,none⟩)] (laid3 w s) fun e w'=>e=.returned (.iface (tyOf c.toNat) (.agg (I ns).toArray))∧RdL (w.heap.size+1+1) (laid3 w s) w' rest) :=
   HT.mono fun e w' h=>by unfold TakePost at h;rw [hr] at h;exact h
  by_cases hre:rest=[]
  ·subst hre
   have hq:=(Pl.readN_nums n r ns).1 hr
   have hsome:formOf s.data.toList=some (c.toNat,ns):=by
    rw [hform,hq.1];simp [hq.2,hn]
   refine (read_ok s w _ _ HT').mono ?_
   rintro e w' ⟨h1,h2⟩
   refine ⟨h2,?_⟩
   rw [hsome];exact h1
  ·have hnone:formOf s.data.toList=none:=by
    rw [hform]
    cases hq:Pl.nums r with
    | none=>rfl
    | some ms =>
     by_cases hlen:ms.length=(Pl.kindsL c.toNat).length
     ·have:=(Pl.readN_nums n r ms).2 ⟨hq,by omega⟩
      rw [hr] at this
      simp only [Option.some.injEq,Prod.mk.injEq] at this
      exact absurd this.2 hre
     ·simp [hlen]
   refine (read_rest s w hg rest hre _ _ HT').mono ?_
   rintro e w' ⟨h1,h2⟩
   refine ⟨h2,?_⟩
   rw [hnone];exact h1
theorem read_any (s:ByteArray) (hs:s.size≤2097152) (w:World) (hg:Gl w) :
  Calls Tryz.prog 34 #[.string s] w (ReadPost w s.data.toList):=by
 have hb2:4≤w.heap.size+1+1:=by have:=hg.2.2;omega
 have hg3:Gl (laid3 w s):=hg.below (laid3_below w s)
 have hr:RdL (w.heap.size+1+1) (laid3 w s) (laid3 w s) s.data.toList:=⟨s,rfl,hs,laid3_rd w s⟩
 cases hl:s.data.toList with
 | nil =>
  rw [hl] at hr
  refine (read_broke s w hg (take_empty _ hb2 _ _ hg3 hr)).mono ?_
  rintro e w' ⟨h1,h2⟩
  exact ⟨h2,h1⟩
 | cons c r =>
  rw [hl] at hr
  by_cases hc:c.toNat=0∨13≤c.toNat
  ·have hk:Pl.kindsL c.toNat=[]:=by
    rcases hc with h | h
    ·rw [h];rfl
    ·unfold Pl.kindsL;split <;> first | rfl | omega
   refine (read_broke s w hg (take_other _ hb2 c hc r _ _ hg3 hr)).mono ?_
   rintro e w' ⟨h1,h2⟩
   refine ⟨h2,?_⟩
   have:formOf (c :: r)=none:=by simp [formOf,hk]
   rw [this];exact h1
  ·rw [← hl]
   have hcc:c.toNat=1∨c.toNat=2∨c.toNat=3∨c.toNat=4∨c.toNat=5∨c.toNat=6∨c.toNat=7∨c.toNat=8∨c.toNat=9∨c.toNat=10∨c.toNat=11∨c.toNat=12:=by omega
   rcases hcc with h | h | h | h | h | h | h | h | h | h | h | h
   ·obtain rfl:c=1:=UInt8.toNat_inj.1 (by rw [h];rfl)
    exact read_take s hs w hg _ r hl 1 rfl (by decide) (take_Day _ hb2 r _ _ hg3 hr)
   ·obtain rfl:c=2:=UInt8.toNat_inj.1 (by rw [h];rfl)
    exact read_take s hs w hg _ r hl 4 rfl (by decide) (take_Receive _ hb2 r _ _ hg3 hr)
   ·obtain rfl:c=3:=UInt8.toNat_inj.1 (by rw [h];rfl)
    exact read_take s hs w hg _ r hl 3 rfl (by decide) (take_Split _ hb2 r _ _ hg3 hr)
   ·obtain rfl:c=4:=UInt8.toNat_inj.1 (by rw [h];rfl)
    exact read_take s hs w hg _ r hl 3 rfl (by decide) (take_Merge _ hb2 r _ _ hg3 hr)
   ·obtain rfl:c=5:=UInt8.toNat_inj.1 (by rw [h];rfl)
    exact read_take s hs w hg _ r hl 5 rfl (by decide) (take_Order _ hb2 r _ _ hg3 hr)
   ·obtain rfl:c=6:=UInt8.toNat_inj.1 (by rw [h];rfl)
    exact read_take s hs w hg _ r hl 1 rfl (by decide) (take_Cancel _ hb2 r _ _ hg3 hr)
   ·obtain rfl:c=7:=UInt8.toNat_inj.1 (by rw [h];rfl)
    exact read_take s hs w hg _ r hl 1 rfl (by decide) (take_Ship _ hb2 r _ _ hg3 hr)
   ·obtain rfl:c=8:=UInt8.toNat_inj.1 (by rw [h];rfl)
    exact read_take s hs w hg _ r hl 2 rfl (by decide) (take_Recall _ hb2 r _ _ hg3 hr)
   ·obtain rfl:c=9:=UInt8.toNat_inj.1 (by rw [h];rfl)
    exact read_take s hs w hg _ r hl 2 rfl (by decide) (take_Release _ hb2 r _ _ hg3 hr)
   ·obtain rfl:c=10:=UInt8.toNat_inj.1 (by rw [h];rfl)
    exact read_take s hs w hg _ r hl 2 rfl (by decide) (take_Scrap _ hb2 r _ _ hg3 hr)
   ·obtain rfl:c=11:=UInt8.toNat_inj.1 (by rw [h];rfl)
    exact read_take s hs w hg _ r hl 1 rfl (by decide) (take_Look _ hb2 r _ _ hg3 hr)
   ·obtain rfl:c=12:=UInt8.toNat_inj.1 (by rw [h];rfl)
    exact read_take s hs w hg _ r hl 2 rfl (by decide) (take_Supply _ hb2 r _ _ hg3 hr)
end Go.Proofs.YtgcedalggnmooabGreatDoor
