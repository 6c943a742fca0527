import Derived.Test.YtgcedalggnmooabGreatDoorRefAX
set_option linter.unusedSimpArgs false
set_option linter.unusedVariables false
set_option maxRecDepth 100000
namespace Go.Proofs.YtgcedalggnmooabGreatDoor
open Go.RowKit
def bitAt (b:UInt8) (m:Nat):Bool:=b.toNat / 2 ^ (7 - m) % 2 == 1
def byteBits (b:UInt8):List Bool:=(List.range 8).map (bitAt b)
def bitsL (l:List UInt8):List Bool:=l.flatMap byteBits
theorem byteBits_len (b:UInt8):(byteBits b).length=8:=by simp [byteBits]
theorem bitsL_len (l:List UInt8):(bitsL l).length=8 * l.length:=by
 induction l with
 | nil=>rfl
 | cons b r ih =>
  show (byteBits b++bitsL r).length=_
  rw [List.length_append,ih,byteBits_len,List.length_cons];omega
def polyBit (m:Nat):Bool:=517762881 / 2 ^ m % 2 == 1
def flipN (l:List Bool):Nat→List Bool
 | 0=>l
 | k+1=>(flipN l k).set k (!((flipN l k).getD k false))
def innN (i:Nat) (l:List Bool):Nat→List Bool
 | 0=>l
 | m+1=>if polyBit m=true then (innN i l m).set (i+32 - m) (!((innN i l m).getD (i+32 - m) false)) else innN i l m
def divN (l:List Bool):Nat→List Bool
 | 0=>l
 | k+1=>if (divN l k).getD k false=true then innN k ((divN l k).set k false) 32 else divN l k
def outN (l:List Bool) (n:Nat):Nat→List UInt8
 | 0=>[0,0,0,0]
 | k+1=>if l.getD (n+k) false=true then outN l n k else (outN l n k).set (k / 8) (UInt8.ofNat (bits .or .u8 (((outN l n k).getD (k / 8) 0).toNat:Int) (2 ^ (7 - k % 8) % 256)).toNat)
theorem flipN_len (l:List Bool):∀ k,(flipN l k).length=l.length
 | 0=>rfl
 | k+1=>by rw [flipN,List.length_set,flipN_len l k]
theorem innN_len (i:Nat) (l:List Bool):∀ m,(innN i l m).length=l.length
 | 0=>rfl
 | m+1=>by
  rw [innN];split
  ·rw [List.length_set,innN_len i l m]
  ·exact innN_len i l m
theorem divN_len (l:List Bool):∀ k,(divN l k).length=l.length
 | 0=>rfl
 | k+1=>by
  rw [divN];split
  ·rw [innN_len,List.length_set,divN_len l k]
  ·exact divN_len l k
theorem outN_len (l:List Bool) (n:Nat):∀ k,(outN l n k).length=4
 | 0=>rfl
 | k+1=>by
  rw [outN];split
  ·exact outN_len l n k
  ·rw [List.length_set];exact outN_len l n k
def divL (l:List UInt8):List Bool:=divN (flipN (bitsL l++List.replicate 32 false) 32) (8 * l.length)
def chkB (l:List UInt8):List UInt8:=outN (divL l) (8 * l.length) 32
theorem chkB_len (l:List UInt8):(chkB l).length=4:=outN_len _ _ _
def frmB (c:List UInt8):List UInt8:=(Pl.num c.length++c)++chkB (Pl.num c.length++c)
end Go.Proofs.YtgcedalggnmooabGreatDoor
namespace Go.Proofs.YtgcedalggnmooabGreatDoor
open Go.RowKit
theorem frmB_len (c:List UInt8) (hc:c.length<9223372036854775808):(frmB c).length≤c.length+13:=by
 have:=Pl.num_len c.length hc
 unfold frmB
 rw [List.length_append,List.length_append,chkB_len];omega
def logsB (l rep:List UInt8):Bool:=(rep.getD 0 1 == 0) && decide ((l.getD 0 0).toNat≤10)
theorem cmd_code {l:List UInt8} {c:Nat} {ns:List Nat} (h:Pl.cmd l=.ok (c,ns)):(l.getD 0 0).toNat=c:=by
 cases l with
 | nil=>simp [Pl.cmd] at h
 | cons b r =>
  simp only [Pl.cmd] at h
  cases hn:Pl.nums r with
  | none=>rw [hn] at h;simp at h
  | some ms =>
   rw [hn] at h
   simp only at h
   by_cases h1:Pl.kindsL b.toNat=[]∨ms.length≠(Pl.kindsL b.toNat).length
   ·rw [if_pos h1] at h;simp at h
   ·rw [if_neg h1] at h
    by_cases h2:Pl.mays (Pl.kindsL b.toNat) ms=true
    ·rw [if_pos h2] at h
     simp at h
     exact h.1
    ·rw [if_neg h2] at h;simp at h
theorem ofNat_ne0 {c:Nat} (h:c≠0) (hc:c≤255):UInt8.ofNat c≠0:=fun h'=>by
 have e:(UInt8.ofNat c).toNat=c:=by rw [UInt8.toNat_ofNat'];omega
 rw [h'] at e
 have:(0:UInt8).toNat=0:=rfl
 omega
end Go.Proofs.YtgcedalggnmooabGreatDoor
namespace Go.Proofs.YtgcedalggnmooabGreatDoor
theorem set_getD {l:List Bool} {i:Nat} (hi:i<l.length) (b:Bool) (j:Nat):(l.set i b).getD j false=if j=i then b else l.getD j false:=by
 by_cases h:j=i
 ·subst h;rw [if_pos rfl];simp [List.getD_eq_getElem?_getD,hi]
 ·rw [if_neg h];simp [List.getD_eq_getElem?_getD,List.getElem?_set,Ne.symm h]
theorem flipN_getD (l:List Bool):∀ k,k≤l.length→∀ j,(flipN l k).getD j false=if j<k then !(l.getD j false) else l.getD j false
 | 0,_,j=>by rw [if_neg (by omega)];rfl
 | k+1,hk,j=>by
  have ih:=flipN_getD l k (by omega)
  have hk':=ih k
  rw [if_neg (Nat.lt_irrefl k)] at hk'
  rw [flipN,set_getD (by rw [flipN_len];omega),hk',ih j]
  by_cases h:j=k
  ·subst h;rw [if_pos rfl,if_pos (by omega)]
  ·rw [if_neg h]
   by_cases h2:j<k
   ·rw [if_pos h2,if_pos (by omega)]
   ·rw [if_neg h2,if_neg (by omega)]
theorem innN_getD (i:Nat) (l:List Bool) (hl:i+32<l.length):∀ m,m≤32→∀ j,(innN i l m).getD j false=(l.getD j false ^^ (decide (j≤i+32∧i+32<j+m) && polyBit (i+32 - j)))
 | 0,_,j=>by rw [decide_eq_false (by omega)];simp [innN]
 | m+1,hm,j=>by
  have ih:=innN_getD i l hl m (by omega)
  have key:(innN i l (m+1)).getD j false=if j=i+32 - m then ((innN i l m).getD j false ^^ polyBit m) else (innN i l m).getD j false:=by
   rw [innN]
   by_cases hp:polyBit m=true
   ·rw [if_pos hp,set_getD (by rw [innN_len];omega)]
    by_cases h:j=i+32 - m
    ·rw [if_pos h,if_pos h,hp,h];simp
    ·rw [if_neg h,if_neg h]
   ·rw [if_neg hp]
    by_cases h:j=i+32 - m
    ·rw [if_pos h,Bool.not_eq_true _ |>.mp hp];simp
    ·rw [if_neg h]
  rw [key,ih j]
  by_cases h:j=i+32 - m
  ·rw [if_pos h,decide_eq_false (by omega),decide_eq_true (by omega),show i+32 - j=m by omega];simp
  ·rw [if_neg h]
   have:decide (j≤i+32∧i+32<j+(m+1))=decide (j≤i+32∧i+32<j+m):=by rw [decide_eq_decide];omega
   rw [this]
def regS (r:Nat→Bool) (b:Bool) (j:Nat):Bool:=(decide (j<31) && r (j+1)) ^^ ((r 0 ^^ b) && polyBit (31 - j))
def regN (m:Nat→Bool):Nat→Nat→Bool
 | 0=>fun _=>true
 | k+1=>regS (regN m k) (m k)
def msgOf (l:List UInt8) (j:Nat):Bool:=(bitsL l).getD j false
theorem divN_reg (l:List UInt8):∀ k,k≤8 * l.length→∀ j,(divN (flipN (bitsL l++List.replicate 32 false) 32) k).getD (k+j) false=((decide (j<32) && regN (msgOf l) k j) ^^ msgOf l (k+j)):=by
 have hL:(bitsL l++List.replicate 32 false).length=8 * l.length+32:=by rw [List.length_append,bitsL_len,List.length_replicate]
 have hm:∀ j,(bitsL l++List.replicate 32 false).getD j false=msgOf l j:=fun j=>by
  unfold msgOf
  by_cases h:j<(bitsL l).length
  ·simp [List.getD_eq_getElem?_getD,List.getElem?_append_left h]
  ·rw [List.getD_eq_getElem?_getD,List.getElem?_append_right (by omega),List.getElem?_replicate]
   rw [List.getD_eq_getElem?_getD,List.getElem?_eq_none (by omega)]
   split <;> rfl
 intro k
 induction k with
 | zero =>
  intro _ j
  rw [divN,Nat.zero_add,flipN_getD _ 32 (by omega),hm]
  by_cases h:j<32
  ·rw [if_pos h,decide_eq_true h];simp [regN]
  ·rw [if_neg h,decide_eq_false h];simp
 | succ k ih =>
  intro hk j
  have ih:=ih (by omega)
  have htop:=ih 0
  rw [Nat.add_zero] at htop
  have hD:(divN (flipN (bitsL l++List.replicate 32 false) 32) k).length=8 * l.length+32:=by rw [divN_len,flipN_len,hL]
  have hnext:=ih (j+1)
  have e:k+(j+1)=k+1+j:=by omega
  rw [e] at hnext
  rw [divN]
  have hr:regN (msgOf l) (k+1) j=((decide (j<31) && regN (msgOf l) k (j+1)) ^^ ((regN (msgOf l) k 0 ^^ msgOf l k) && polyBit (31 - j))):=rfl
  generalize hE:divN (flipN (bitsL l++List.replicate 32 false) 32) k=E at *
  by_cases ht:E.getD k false=true
  ·have ht':(regN (msgOf l) k 0 ^^ msgOf l k)=true:=by rw [ht] at htop;simpa using htop.symm
   rw [if_pos ht,innN_getD k _ (by rw [List.length_set];omega) 32 (by omega),set_getD (by omega),if_neg (by omega),hnext,hr,ht']
   by_cases h31:j<31
   ·rw [decide_eq_true (show j+1<32 by omega),decide_eq_true (show k+1+j≤k+32∧k+32<k+1+j+32 by omega),decide_eq_true (show j<32 by omega),decide_eq_true h31,show k+32 - (k+1+j)=31 - j by omega]
    cases regN (msgOf l) k (j+1) <;> cases msgOf l (k+1+j) <;> cases polyBit (31 - j) <;> rfl
   ·by_cases h32:j=31
    ·subst h32
     rw [decide_eq_false (show ¬ (31+1<32) by omega),decide_eq_true (show k+1+31≤k+32∧k+32<k+1+31+32 by omega),decide_eq_true (show 31<32 by omega),decide_eq_false h31,show k+32 - (k+1+31)=31 - 31 by omega]
     cases msgOf l (k+1+31) <;> cases polyBit (31 - 31) <;> rfl
    ·rw [decide_eq_false (show ¬ (j+1<32) by omega),decide_eq_false (show ¬ (k+1+j≤k+32∧k+32<k+1+j+32) by omega),decide_eq_false (show ¬ (j<32) by omega)]
     simp
  ·have ht0:E.getD k false=false:=by simpa using ht
   have ht':(regN (msgOf l) k 0 ^^ msgOf l k)=false:=by rw [ht0] at htop;simpa using htop.symm
   rw [if_neg ht,hnext,hr,ht']
   by_cases h31:j<31
   ·rw [decide_eq_true (show j+1<32 by omega),decide_eq_true (show j<32 by omega),decide_eq_true h31];simp
   ·rw [decide_eq_false h31]
    by_cases h32:j=31
    ·subst h32;simp
    ·rw [decide_eq_false (show ¬ (j+1<32) by omega),decide_eq_false (show ¬ (j<32) by omega)];simp
theorem divL_reg (l:List UInt8) (j:Nat) (hj:j<32):(divL l).getD (8 * l.length+j) false=regN (msgOf l) (8 * l.length) j:=by
 have h:=divN_reg l (8 * l.length) (Nat.le_refl _) j
 unfold divL
 rw [h,decide_eq_true hj]
 have:msgOf l (8 * l.length+j)=false:=by
  unfold msgOf
  rw [List.getD_eq_getElem?_getD,List.getElem?_eq_none (by rw [bitsL_len];omega)];rfl
 rw [this];simp
end Go.Proofs.YtgcedalggnmooabGreatDoor
namespace Go.Proofs.YtgcedalggnmooabGreatDoor
def Rg (v:Nat) (r:Nat→Bool):Prop:=v<4294967296∧∀ j,j<32→v.testBit (31 - j)=r j
theorem poly_test:∀ m,m<32→Nat.testBit 517762881 m=polyBit m:=by decide +kernel
theorem two32:(4294967296:Nat)=2 ^ 32:=rfl
theorem Rg.congr {v:Nat} {r r':Nat→Bool} (h:Rg v r) (e:∀ j,j<32→r j=r' j):Rg v r':=⟨h.1,fun j hj=>(h.2 j hj).trans (e j hj)⟩
theorem Rg.uniq {v u:Nat} {r:Nat→Bool} (h:Rg v r) (k:Rg u r):v=u:=by
 apply Nat.eq_of_testBit_eq
 intro i
 by_cases hi:i<32
 ·have:=h.2 (31 - i) (by omega)
  have k2:=k.2 (31 - i) (by omega)
  rw [show 31 - (31 - i)=i by omega] at this k2
  rw [this,k2]
 ·rw [Nat.testBit_lt_two_pow (Nat.lt_of_lt_of_le h.1 (by rw [two32];exact Nat.pow_le_pow_right (by omega) (by omega))),Nat.testBit_lt_two_pow (Nat.lt_of_lt_of_le k.1 (by rw [two32];exact Nat.pow_le_pow_right (by omega) (by omega)))]
theorem Rg.ones:Rg 4294967295 (fun _=>true):=⟨by omega,by decide +kernel⟩
theorem Rg.xor {v u:Nat} {r q:Nat→Bool} (h:Rg v r) (k:Rg u q):Rg (v ^^^ u) (fun j=>r j ^^ q j):=by
 refine ⟨?_,fun j hj=>?_⟩
 ·have h1:=h.1
  have h2:=k.1
  rw [two32] at h1 h2 ⊢
  exact Nat.xor_lt_two_pow h1 h2
 ·rw [Nat.testBit_xor,h.2 j hj,k.2 j hj]
def crcS (v:Nat):Nat:=if v.testBit 31=true then (v * 2 % 4294967296) ^^^ 517762881 else v * 2 % 4294967296
theorem Rg.poly:Rg 517762881 (fun j=>polyBit (31 - j)):=⟨by omega,fun j hj=>poly_test (31 - j) (by omega)⟩
theorem Rg.double {v:Nat} {r:Nat→Bool} (h:Rg v r):Rg (v * 2 % 4294967296) (fun j=>decide (j<31) && r (j+1)):=by
 refine ⟨Nat.mod_lt _ (by omega),fun j hj=>?_⟩
 show (v * 2 % 4294967296).testBit (31 - j)=(decide (j<31) && r (j+1))
 rw [two32,Nat.testBit_mod_two_pow,decide_eq_true (show 31 - j<32 by omega),Bool.true_and]
 by_cases h31:j<31
 ·rw [decide_eq_true h31,Bool.true_and,← h.2 (j+1) (by omega)]
  rw [show 31 - j=(31 - (j+1))+1 by omega,Nat.testBit_succ,Nat.mul_div_cancel _ (by omega)]
 ·rw [decide_eq_false h31,Bool.false_and,show 31 - j=0 by omega,Nat.testBit_zero]
  have:v * 2 % 2=0:=Nat.mul_mod_left _ _
  rw [this];rfl
theorem Rg.step {v:Nat} {r:Nat→Bool} (h:Rg v r):Rg (crcS v) (regS r false):=by
 have h0:v.testBit 31=r 0:=h.2 0 (by omega)
 unfold crcS
 by_cases ht:v.testBit 31=true
 ·rw [if_pos ht]
  refine (h.double.xor Rg.poly).congr (fun j hj=>?_)
  rw [h0] at ht
  show ((decide (j<31) && r (j+1)) ^^ polyBit (31 - j))=((decide (j<31) && r (j+1)) ^^ ((r 0 ^^ false) && polyBit (31 - j)))
  rw [ht];simp
 ·rw [if_neg ht]
  refine h.double.congr (fun j hj=>?_)
  rw [h0,Bool.not_eq_true] at ht
  show (decide (j<31) && r (j+1))=((decide (j<31) && r (j+1)) ^^ ((r 0 ^^ false) && polyBit (31 - j)))
  rw [ht];simp
def crcK (v:Nat):Nat→Nat
 | 0=>v
 | k+1=>crcS (crcK v k)
def crcB (v:Nat) (b:UInt8):Nat:=crcK (v ^^^ (b.toNat * 16777216)) 8
def crcF (l:List UInt8):Nat:=l.foldl crcB 4294967295
theorem Rg.top (b:UInt8):Rg (b.toNat * 16777216) (fun j=>decide (j<8) && bitAt b j):=by
 have hb:=UInt8.toNat_lt b
 refine ⟨by omega,fun j hj=>?_⟩
 show (b.toNat * 16777216).testBit (31 - j)=(decide (j<8) && bitAt b j)
 rw [Nat.mul_comm,show (16777216:Nat)=2 ^ 24 from rfl,Nat.testBit_two_pow_mul]
 by_cases h:j<8
 ·rw [decide_eq_true h,decide_eq_true (show 31 - j ≥ 24 by omega),Bool.true_and,Bool.true_and,show 31 - j - 24=7 - j by omega]
  unfold bitAt
  rw [Nat.testBit_eq_decide_div_mod_eq]
  cases hq:(b.toNat / 2 ^ (7 - j) % 2 == 1) with
  | true=>simpa using hq
  | false=>simpa using hq
 ·rw [decide_eq_false h,decide_eq_false (show ¬ 31 - j ≥ 24 by omega),Bool.false_and,Bool.false_and]
theorem byte_step {m:Nat→Bool} {n v:Nat} {b:UInt8} (h:Rg v (regN m n)) (hm:∀ k,k<8→m (n+k)=bitAt b k):Rg (crcB v b) (regN m (n+8)):=by
 have hw:∀ k,k≤8→Rg (crcK (v ^^^ (b.toNat * 16777216)) k) (fun j=>regN m (n+k) j ^^ (decide (k+j<8) && m (n+(k+j)))):=by
  intro k
  induction k with
  | zero =>
   intro _
   refine (h.xor (Rg.top b)).congr (fun j hj=>?_)
   show (regN m n j ^^ (decide (j<8) && bitAt b j))=(regN m n j ^^ (decide (0+j<8) && m (n+(0+j))))
   rw [Nat.zero_add]
   by_cases h8:j<8
   ·rw [hm j h8]
   ·rw [decide_eq_false h8];simp
  | succ k ih =>
   intro hk
   refine (ih (by omega)).step.congr (fun j hj=>?_)
   have e:n+(k+1)=(n+k)+1:=by omega
   rw [e]
   show ((decide (j<31) && (regN m (n+k) (j+1) ^^ (decide (k+(j+1)<8) && m (n+(k+(j+1)))))) ^^ (((regN m (n+k) 0 ^^ (decide (k+0<8) && m (n+(k+0)))) ^^ false) && polyBit (31 - j)))=(((decide (j<31) && regN m (n+k) (j+1)) ^^ ((regN m (n+k) 0 ^^ m (n+k)) && polyBit (31 - j))) ^^ (decide (k+1+j<8) && m (n+(k+1+j))))
   rw [decide_eq_true (show k+0<8 by omega),Nat.add_zero,show k+(j+1)=k+1+j by omega,Bool.true_and,Bool.xor_false]
   by_cases h31:j<31
   ·rw [decide_eq_true h31,Bool.true_and,Bool.true_and]
    cases regN m (n+k) (j+1) <;> cases (decide (k+1+j<8) && m (n+(k+1+j))) <;> cases ((regN m (n+k) 0 ^^ m (n+k)) && polyBit (31 - j)) <;> rfl
   ·rw [decide_eq_false h31,decide_eq_false (show ¬ k+1+j<8 by omega)];simp
 refine (hw 8 (Nat.le_refl _)).congr (fun j hj=>?_)
 show (regN m (n+8) j ^^ (decide (8+j<8) && m (n+(8+j))))=regN m (n+8) j
 rw [decide_eq_false (show ¬ 8+j<8 by omega)];simp
theorem msg_bit (a:List UInt8) (b:UInt8) (r:List UInt8) (k:Nat) (hk:k<8):msgOf (a++b :: r) (8 * a.length+k)=bitAt b k:=by
 unfold msgOf
 have e:bitsL (a++b :: r)=bitsL a++(byteBits b++bitsL r):=by simp [bitsL]
 rw [e,List.getD_eq_getElem?_getD,List.getElem?_append_right (by rw [bitsL_len];omega),bitsL_len,show 8 * a.length+k - 8 * a.length=k by omega,List.getElem?_append_left (by rw [byteBits_len];exact hk)]
 simp [byteBits,hk]
theorem crc_reg:∀ (r a:List UInt8),∀ v,Rg v (regN (msgOf (a++r)) (8 * a.length))→Rg (r.foldl crcB v) (regN (msgOf (a++r)) (8 * (a++r).length))
 | [],a,v,h=>by simpa using h
 | b :: r,a,v,h=>by
  have h1:=byte_step h (fun k hk=>msg_bit a b r k hk)
  have e:a++b :: r=(a++[b])++r:=by simp
  have e2:8 * a.length+8=8 * (a++[b]).length:=by rw [List.length_append,List.length_singleton];omega
  rw [e,e2] at h1
  rw [e,List.foldl_cons]
  exact crc_reg r (a++[b]) _ h1
theorem crcF_reg (l:List UInt8):Rg (crcF l) (regN (msgOf l) (8 * l.length)):=crc_reg l [] 4294967295 Rg.ones
theorem or_walk:∀ x:Nat,x<256→∀ t:Nat,t<8→bits .or .u8 (x:Int) (2 ^ t % 256)=((x ||| 2 ^ t:Nat):Int):=by decide +kernel
theorem out_bit (D:List Bool) (n:Nat):∀ K,K≤32→∀ q,q<4→∀ t,t<8→(((outN D n K).getD q 0).toNat).testBit (7 - t)=(decide (8 * q+t<K) && !(D.getD (n+(8 * q+t)) false))
 | 0,_,q,hq,t,ht=>by
  rw [decide_eq_false (by omega),Bool.false_and]
  have:(outN D n 0).getD q 0=0:=by
   rcases (show q=0∨q=1∨q=2∨q=3 by omega) with rfl | rfl | rfl | rfl <;> rfl
  rw [this];simp
 | K+1,hK,q,hq,t,ht=>by
  have ih:=out_bit D n K (by omega)
  have hl:=outN_len D n K
  rw [outN]
  by_cases hb:D.getD (n+K) false=true
  ·rw [if_pos hb,ih q hq t ht]
   by_cases h:8 * q+t=K
   ·rw [h,hb];simp
   ·rw [show decide (8 * q+t<K+1)=decide (8 * q+t<K) by rw [decide_eq_decide];omega]
  ·rw [if_neg hb]
   have hx:((outN D n K).getD (K / 8) 0).toNat<256:=UInt8.toNat_lt _
   rw [or_walk _ hx (7 - K % 8) (by omega),Int.toNat_natCast]
   have hor:((outN D n K).getD (K / 8) 0).toNat ||| 2 ^ (7 - K % 8)<256:=by
    rw [show (256:Nat)=2 ^ 8 from rfl] at hx ⊢
    exact Nat.or_lt_two_pow hx (Nat.pow_lt_pow_right (by omega) (by omega))
   by_cases hqk:q=K / 8
   ·subst hqk
    have e:((outN D n K).set (K / 8) (UInt8.ofNat (((outN D n K).getD (K / 8) 0).toNat ||| 2 ^ (7 - K % 8)))).getD (K / 8) 0=UInt8.ofNat (((outN D n K).getD (K / 8) 0).toNat ||| 2 ^ (7 - K % 8)):=by
     simp [List.getD_eq_getElem?_getD,hl,hq]
    rw [e,UInt8.toNat_ofNat',Nat.mod_eq_of_lt hor,Nat.testBit_or,ih (K / 8) hq t ht,Nat.testBit_two_pow]
    by_cases h:8 * (K / 8)+t=K
    ·rw [h,decide_eq_true (show 7 - K % 8=7 - t by omega),decide_eq_true (show K<K+1 by omega)]
     rw [Bool.not_eq_true] at hb
     rw [hb];simp
    ·rw [decide_eq_false (show ¬ 7 - K % 8=7 - t by omega),Bool.or_false,show decide (8 * (K / 8)+t<K+1)=decide (8 * (K / 8)+t<K) by rw [decide_eq_decide];omega]
   ·have e:∀ x,((outN D n K).set (K / 8) x).getD q 0=(outN D n K).getD q 0:=fun x=>by
     simp [List.getD_eq_getElem?_getD,List.getElem?_set,Ne.symm hqk]
    rw [e,ih q hq t ht,show decide (8 * q+t<K+1)=decide (8 * q+t<K) by rw [decide_eq_decide];omega]
def beB (v:Nat):List UInt8:=[UInt8.ofNat (v / 16777216),UInt8.ofNat (v / 65536),UInt8.ofNat (v / 256),UInt8.ofNat v]
theorem beB_bit (v q t:Nat) (hq:q<4) (ht:t<8):(((beB v).getD q 0).toNat).testBit (7 - t)=v.testBit (31 - (8 * q+t)):=by
 have key:∀ s,(UInt8.ofNat (v / 2 ^ s)).toNat.testBit (7 - t)=v.testBit (s+(7 - t)):=fun s=>by
  rw [UInt8.toNat_ofNat',show (2 ^ 8:Nat)=2 ^ 8 from rfl,Nat.testBit_mod_two_pow,decide_eq_true (by omega),Bool.true_and,Nat.testBit_div_two_pow]
  congr 1;omega
 rcases (show q=0∨q=1∨q=2∨q=3 by omega) with rfl | rfl | rfl | rfl
 ·have:=key 24;rw [show 31 - (8 * 0+t)=24+(7 - t) by omega];exact this
 ·have:=key 16;rw [show 31 - (8 * 1+t)=16+(7 - t) by omega];exact this
 ·have:=key 8;rw [show 31 - (8 * 2+t)=8+(7 - t) by omega];exact this
 ·have:=key 0;rw [show 31 - (8 * 3+t)=0+(7 - t) by omega];rw [Nat.pow_zero,Nat.div_one] at this;exact this
theorem chkB_crc (l:List UInt8):chkB l=beB (crcF l ^^^ 4294967295):=by
 have hr:=crcF_reg l
 have hx:=hr.xor Rg.ones
 have ext:∀ (A B:List UInt8),A.length=4→B.length=4→(∀ q,q<4→A.getD q 0=B.getD q 0)→A=B:=fun A B hA hB h=>by
  refine List.ext_getElem (hA.trans hB.symm) (fun q h1 h2=>?_)
  have:=h q (by omega)
  simpa [List.getD_eq_getElem?_getD,h1,h2] using this
 refine ext _ _ (chkB_len l) rfl (fun q hq=>?_)
 apply UInt8.toNat_inj.1
 apply Nat.eq_of_testBit_eq
 intro i
 by_cases hi:i<8
 ·have o:=out_bit (divL l) (8 * l.length) 32 (Nat.le_refl _) q hq (7 - i) (by omega)
  have b:=beB_bit (crcF l ^^^ 4294967295) q (7 - i) hq (by omega)
  rw [show 7 - (7 - i)=i by omega] at o b
  have o':((chkB l).getD q 0).toNat.testBit i=_:=o
  rw [o',b,decide_eq_true (by omega),Bool.true_and,divL_reg l _ (by omega),hx.2 _ (by omega)]
  show (!(regN (msgOf l) (8 * l.length) (8 * q+(7 - i))))=(regN (msgOf l) (8 * l.length) (8 * q+(7 - i)) ^^ true)
  rw [Bool.xor_true]
 ·have hb1:((chkB l).getD q 0).toNat<2 ^ i:=Nat.lt_of_lt_of_le (UInt8.toNat_lt _) (Nat.pow_le_pow_right (by omega) (by omega))
  have hb2:((beB (crcF l ^^^ 4294967295)).getD q 0).toNat<2 ^ i:=Nat.lt_of_lt_of_le (UInt8.toNat_lt _) (Nat.pow_le_pow_right (by omega) (by omega))
  rw [Nat.testBit_lt_two_pow hb1,Nat.testBit_lt_two_pow hb2]
end Go.Proofs.YtgcedalggnmooabGreatDoor
