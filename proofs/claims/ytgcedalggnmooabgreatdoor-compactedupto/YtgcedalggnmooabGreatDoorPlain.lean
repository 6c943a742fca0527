set_option linter.unusedSimpArgs false
set_option linter.unusedVariables false
namespace Go.Proofs.YtgcedalggnmooabGreatDoor
namespace Pl
def numF:Nat→Nat→List UInt8
 | 0,n=>[UInt8.ofNat n]
 | k+1,n=>if n<128 then [UInt8.ofNat n] else UInt8.ofNat (n % 128+128) :: numF k (n / 128)
def num (n:Nat):List UInt8:=numF n n
theorem numF_lt {n:Nat} (h:n<128):∀ k,numF k n=[UInt8.ofNat n]
 | 0=>rfl
 | _+1=>if_pos h
theorem numF_eq:∀ (k j n:Nat),n≤k→n≤j→numF k n=numF j n
 | 0,j,n,hk,_=>by rw [numF_lt (by omega),numF_lt (by omega)]
 | k+1,j,n,hk,hj=>by
  by_cases h:n<128
  ·rw [numF_lt h,numF_lt h]
  ·match j,hj with
   | 0,hj=>omega
   | j+1,hj =>
    have e:=numF_eq k j (n / 128) (by omega) (by omega)
    simp only [numF,if_neg h,e]
theorem num_lt {n:Nat} (h:n<128):num n=[UInt8.ofNat n]:=numF_lt h n
theorem num_ge {n:Nat} (h:¬ n<128):num n=UInt8.ofNat (n % 128+128) :: num (n / 128):=by
 have e:numF n n=numF (n - 1+1) n:=by congr 1;omega
 rw [num,e,numF,if_neg h,numF_eq (n - 1) (n / 128) (n / 128) (by omega) (by omega),num]
theorem num_len_pos (n:Nat):1≤(num n).length:=by
 by_cases h:n<128
 ·rw [num_lt h];simp
 ·rw [num_ge h];simp
theorem num_len_le:∀ (k n:Nat),n<128 ^ (k+1)→(num n).length≤k+1
 | 0,n,h=>by rw [num_lt (by simpa using h)];simp
 | k+1,n,h=>by
  by_cases h1:n<128
  ·rw [num_lt h1];simp
  ·rw [num_ge h1]
   have:=num_len_le k (n / 128) (by rw [Nat.div_lt_iff_lt_mul (by omega)];rw [Nat.pow_succ] at h;exact h)
   simp;omega
theorem num_len (n:Nat) (h:n<9223372036854775808):(num n).length≤9:=num_len_le 8 n (by simpa using h)
def val:List UInt8→Nat
 | []=>0
 | b :: r=>b.toNat % 128+128 * val r
theorem val_snoc (b:UInt8):∀ l:List UInt8,val (l++[b])=val l+(b.toNat % 128) * 128 ^ l.length
 | []=>by simp [val]
 | c :: r=>by
  have:=val_snoc b r
  simp only [List.cons_append,val,this,List.length_cons,Nat.pow_succ]
  rw [Nat.mul_add,← Nat.add_assoc]
  congr 1
  rw [Nat.mul_comm (128 ^ r.length) 128,Nat.mul_left_comm]
theorem val_lt:∀ l:List UInt8,val l<128 ^ l.length
 | []=>by simp [val]
 | c :: r=>by
  have:=val_lt r
  simp only [val,List.length_cons,Nat.pow_succ]
  have h2:c.toNat % 128<128:=Nat.mod_lt _ (by omega)
  omega
def lead (l:List UInt8):Nat:=(l.takeWhile (fun b=>128≤b.toNat)).length
def ok1 (l:List UInt8):Bool:=decide (lead l<9) && decide (lead l<l.length) && !(decide (0<lead l) && (l.getD (lead l) 1 == 0))
def fst (l:List UInt8):Nat:=if ok1 l then val (l.take (lead l+1)) else 0
def snd (l:List UInt8):Nat:=if ok1 l then lead l+1 else 0
theorem lead_cons (b:UInt8) (r:List UInt8):lead (b :: r)=if 128≤b.toNat then lead r+1 else 0:=by
 unfold lead;rw [List.takeWhile_cons];by_cases h:128≤b.toNat <;> simp [h]
theorem lead_ge:∀ (k:Nat) (l:List UInt8),k≤l.length→(∀ j,j<k→128≤(l.getD j 0).toNat)→k≤lead l
 | 0,_,_,_=>Nat.zero_le _
 | k+1,[],h,_=>by simp at h
 | k+1,b :: r,h,hj=>by
  rw [lead_cons,if_pos (by have:=hj 0 (by omega);simpa using this)]
  have:=lead_ge k r (by simpa using h) (fun j h'=>by have:=hj (j+1) (by omega);simpa using this)
  omega
theorem lead_stop:∀ (k:Nat) (l:List UInt8),k<l.length→(∀ j,j<k→128≤(l.getD j 0).toNat)→(l.getD k 0).toNat<128→lead l=k
 | 0,[],h,_,_=>by simp at h
 | 0,b :: r,_,_,hs=>by rw [lead_cons,if_neg (by simp at hs;omega)]
 | k+1,[],h,_,_=>by simp at h
 | k+1,b :: r,h,hj,hs=>by
  rw [lead_cons,if_pos (by have:=hj 0 (by omega);simpa using this)]
  have:=lead_stop k r (by simpa using h) (fun j h'=>by have:=hj (j+1) (by omega);simpa using this) (by simpa using hs)
  omega
theorem u8_of (b:UInt8) (n:Nat) (h:n=b.toNat):UInt8.ofNat n=b:=by
 subst h;exact UInt8.ofNat_toNat
theorem num_val (b:UInt8) (hb:b.toNat<128):∀ l:List UInt8,(∀ c ∈ l,128≤c.toNat)→((num (val (l++[b]))=l++[b])↔¬ (0<l.length∧b=0))
 | [],_=>by
  simp only [List.nil_append,val]
  rw [num_lt (by omega)]
  simp
  exact u8_of b _ (by omega)
 | c :: r,h=>by
  have hc:=h c (by simp)
  have hc2:c.toNat<256:=UInt8.toNat_lt c
  have ih:=num_val b hb r (fun x hx=>h x (by simp [hx]))
  simp only [List.cons_append,val]
  by_cases hz:val (r++[b])=0
  · -- all noughts: then r is empty and b is 0
   have hb0:b=0:=by
    rw [val_snoc] at hz
    have h1:b.toNat % 128 * 128 ^ r.length=0:=by omega
    have h2:0<128 ^ r.length:=Nat.pow_pos (by omega)
    have h3:b.toNat % 128=0:=by
     rcases Nat.mul_eq_zero.1 h1 with h | h
     ·exact h
     ·omega
    apply UInt8.toNat_inj.1
    show b.toNat=0
    omega
   rw [hz,num_lt (by omega)]
   simp [hb0]
  ·have hnl:¬ (c.toNat % 128+128 * val (r++[b])<128):=by omega
   rw [num_ge hnl]
   have e1:(c.toNat % 128+128 * val (r++[b])) % 128+128=c.toNat:=by omega
   have e2:(c.toNat % 128+128 * val (r++[b])) / 128=val (r++[b]):=by omega
   rw [e1,e2,UInt8.ofNat_toNat]
   simp only [List.cons.injEq,true_and,List.length_cons]
   rw [ih]
   constructor
   ·intro h1 h2
    apply h1
    refine ⟨?_,h2.2⟩
    cases r with
    | nil=>exfalso;apply hz;simp [val,h2.2]
    | cons=>simp
   ·intro h1 h2;exact h1 ⟨by omega,h2.2⟩
theorem take_snoc (l:List UInt8) (k:Nat) (h:k<l.length):l.take (k+1)=l.take k++[l.getD k 0]:=by
 rw [List.take_succ_eq_append_getElem h];simp [List.getD_eq_getElem?_getD,h]
theorem val_take_lt (l:List UInt8) (k:Nat) (h:k≤9):val (l.take k)<9223372036854775808:=by
 have h1:=val_lt (l.take k)
 have h2:(l.take k).length≤9:=by rw [List.length_take];omega
 have h3:128 ^ (l.take k).length≤128 ^ 9:=Nat.pow_le_pow_right (by omega) h2
 have h4:(128:Nat) ^ 9=9223372036854775808:=by decide
 omega
theorem all_lead (l:List UInt8) (k:Nat) (hk:k≤l.length) (h:∀ j,j<k→128≤(l.getD j 0).toNat):∀ c ∈ l.take k,128≤c.toNat:=by
 intro c hc
 obtain ⟨j,hj,rfl⟩:=List.getElem_of_mem hc
 have hj':j<k:=by rw [List.length_take] at hj;omega
 have:=h j hj'
 rw [List.getElem_take]
 rw [List.getD_eq_getElem?_getD,List.getElem?_eq_getElem (by omega)] at this
 simpa using this
theorem first_stop (l:List UInt8) (k:Nat) (h9:k<9) (hk:k<l.length) (h:∀ j,j<k→128≤(l.getD j 0).toNat) (hs:(l.getD k 0).toNat<128) :
  (num (val (l.take (k+1)))=l.take (k+1)→fst l=val (l.take (k+1))∧snd l=k+1)∧(num (val (l.take (k+1)))≠l.take (k+1)→fst l=0∧snd l=0):=by
 have hl:=lead_stop k l hk h hs
 have hn:=num_val (l.getD k 0) hs (l.take k) (all_lead l k (by omega) h)
 rw [← take_snoc l k hk] at hn
 have hlen:(l.take k).length=k:=by rw [List.length_take];omega
 have hd:l.getD k 1=l.getD k 0:=by simp [List.getD_eq_getElem?_getD,hk]
 have ho:ok1 l=true↔num (val (l.take (k+1)))=l.take (k+1):=by
  rw [hn,hlen]
  simp [ok1,hl,h9,hk,hd]
  constructor
  ·rintro (h | h) h1
   ·omega
   ·exact h
  ·intro h
   by_cases hk0:k=0
   ·exact Or.inl hk0
   ·exact Or.inr (h (by omega))
 constructor
 ·intro h1
  have:=ho.2 h1
  simp [fst,snd,this,hl]
 ·intro h1
  have:ok1 l=false:=by
   cases e:ok1 l
   ·rfl
   ·exact absurd (ho.1 e) h1
  simp [fst,snd,this]
theorem first_out (l:List UInt8) (k:Nat) (h9:k≤9) (hk:k≤l.length) (h:∀ j,j<k→128≤(l.getD j 0).toNat) (hs:k=9∨k=l.length):fst l=0∧snd l=0:=by
 have hl:=lead_ge k l hk h
 have:ok1 l=false:=by
  simp only [ok1,Bool.and_eq_false_iff,decide_eq_false_iff_not]
  left
  rcases hs with hs | hs
  ·left;omega
  ·right;omega
 simp [fst,snd,this]
theorem snd_le (l:List UInt8):snd l≤l.length:=by
 unfold snd;split
 ·rename_i h
  simp only [ok1,Bool.and_eq_true,decide_eq_true_eq] at h
  omega
 ·omega
theorem snd_le9 (l:List UInt8):snd l≤9:=by
 unfold snd;split
 ·rename_i h
  simp only [ok1,Bool.and_eq_true,decide_eq_true_eq] at h
  omega
 ·omega
theorem fst_lt (l:List UInt8):fst l<9223372036854775808:=by
 unfold fst;split
 ·rename_i h
  simp only [ok1,Bool.and_eq_true,decide_eq_true_eq] at h
  exact val_take_lt l _ (by omega)
 ·omega
def numsF:Nat→List UInt8→Option (List Nat)
 | 0,_=>some []
 | k+1,l=>if l=[] then some [] else if snd l=0 then none else (numsF k (l.drop (snd l))).map (fst l :: ·)
def nums (l:List UInt8):Option (List Nat):=numsF l.length l
theorem numsF_nil:∀ k,numsF k []=some []
 | 0=>rfl
 | _+1=>by simp [numsF]
theorem numsF_eq:∀ (k j:Nat) (l:List UInt8),l.length≤k→l.length≤j→numsF k l=numsF j l
 | 0,j,l,hk,_=>by
  have h:l=[]:=List.length_eq_zero_iff.1 (by omega)
  subst h;rw [numsF_nil,numsF_nil]
 | k+1,j,l,hk,hj=>by
  by_cases h:l=[]
  ·subst h;rw [numsF_nil,numsF_nil]
  ·have hl:0<l.length:=List.length_pos_iff.2 h
   match j,hj with
   | 0,hj=>omega
   | j+1,hj =>
    by_cases h2:snd l=0
    ·simp only [numsF,if_neg h,if_pos h2]
    ·have hd:(l.drop (snd l)).length=l.length - snd l:=List.length_drop
     have e:=numsF_eq k j (l.drop (snd l)) (by omega) (by omega)
     simp only [numsF,if_neg h,if_neg h2,e]
theorem nums_step {l:List UInt8} (h:l≠[]):nums l=if snd l=0 then none else (nums (l.drop (snd l))).map (fst l :: ·):=by
 have hl:0<l.length:=List.length_pos_iff.2 h
 have e:numsF l.length l=numsF (l.length - 1+1) l:=by congr 1;omega
 rw [nums,e,numsF,if_neg h]
 by_cases h2:snd l=0
 ·rw [if_pos h2,if_pos h2]
 ·have hd:(l.drop (snd l)).length=l.length - snd l:=List.length_drop
  rw [if_neg h2,if_neg h2,nums,numsF_eq (l.length - 1) (l.drop (snd l)).length _ (by omega) (by omega)]
theorem nums_nil:nums []=some []:=rfl
theorem nums_none {l:List UInt8} (h:l≠[]) (h2:snd l=0):nums l=none:=by rw [nums_step h,if_pos h2]
theorem nums_cons {l:List UInt8} (h:l≠[]) (h2:snd l≠0):nums l=(nums (l.drop (snd l))).map (fst l :: ·):=by rw [nums_step h,if_neg h2]
theorem nums_len:∀ (k:Nat) (l:List UInt8) (ns:List Nat),l.length≤k→nums l=some ns→ns.length≤l.length
 | k,l,ns,hk,h=>by
  by_cases h1:l=[]
  ·subst h1;rw [nums_nil] at h;cases h;simp
  ·by_cases h2:snd l=0
   ·rw [nums_none h1 h2] at h;cases h
   ·rw [nums_cons h1 h2] at h
    have hl:0<l.length:=List.length_pos_iff.2 h1
    match k with
    | 0=>omega
    | k+1 =>
     obtain ⟨ms,hms,rfl⟩:=Option.map_eq_some_iff.1 h
     have hd:(l.drop (snd l)).length=l.length - snd l:=List.length_drop
     have:=nums_len k (l.drop (snd l)) ms (by omega) hms
     simp;omega
theorem nums_lt:∀ (k:Nat) (l:List UInt8) (ns:List Nat),l.length≤k→nums l=some ns→∀ n ∈ ns,n<9223372036854775808
 | k,l,ns,hk,h=>by
  by_cases h1:l=[]
  ·subst h1;rw [nums_nil] at h;cases h;simp
  ·by_cases h2:snd l=0
   ·rw [nums_none h1 h2] at h;cases h
   ·rw [nums_cons h1 h2] at h
    have hl:0<l.length:=List.length_pos_iff.2 h1
    match k with
    | 0=>omega
    | k+1 =>
     obtain ⟨ms,hms,rfl⟩:=Option.map_eq_some_iff.1 h
     have hd:(l.drop (snd l)).length=l.length - snd l:=List.length_drop
     have:=nums_lt k (l.drop (snd l)) ms (by omega) hms
     intro n hn
     rcases List.mem_cons.1 hn with rfl | hn
     ·exact fst_lt l
     ·exact this n hn
def toldB (ns:List Nat):List UInt8:=(ns.map num).flatten
theorem toldB_snoc (ns:List Nat) (n:Nat):toldB (ns++[n])=toldB ns++num n:=by simp [toldB]
theorem toldB_take (ns:List Nat) (k:Nat) (h:k<ns.length):toldB (ns.take (k+1))=toldB (ns.take k)++num (ns.getD k 0):=by
 rw [List.take_succ_eq_append_getElem h,toldB_snoc];simp [List.getD_eq_getElem?_getD,h]
theorem toldB_len:∀ (ns:List Nat),(∀ n ∈ ns,n<9223372036854775808)→(toldB ns).length≤9 * ns.length
 | [],_=>by simp [toldB]
 | n :: r,h=>by
  have h1:=num_len n (h n (by simp))
  have h2:=toldB_len r (fun x hx=>h x (by simp [hx]))
  simp only [toldB,List.map_cons,List.flatten_cons,List.length_append,List.length_cons] at h2 ⊢
  omega
def kindsL:Nat→List UInt8
 | 1=>[100]
 | 2=>[105,105,99,100]
 | 3=>[105,105,99]
 | 4=>[105,105,105]
 | 5=>[105,105,99,100,119]
 | 6=>[105]
 | 7=>[105]
 | 8=>[105,105]
 | 9=>[105,105]
 | 10=>[105,99]
 | 11=>[105]
 | 12=>[105,100]
 | _=>[]
def mayB (kind:UInt8) (n:Nat):Bool :=
 if kind=105∨kind=99 then decide (1≤n) && decide (n≤2147483647) else if kind=100 then decide (n≤2147483647) else decide (n≤3)
def mays:List UInt8→List Nat→Bool
 | k :: ks,n :: ns=>mayB k n && mays ks ns
 | _,_=>true
abbrev Cmd:=Except Nat (Nat × List Nat)
def cmd (l:List UInt8):Cmd :=
 match l with
 | []=>.error 1
 | c :: r =>
  match nums r with
  | none=>.error 1
  | some ns=>if kindsL c.toNat=[]∨ns.length≠(kindsL c.toNat).length then .error 1 else if mays (kindsL c.toNat) ns then .ok (c.toNat,ns) else .error 2
def readN:Nat→List UInt8→Option (List Nat × List UInt8)
 | 0,l=>some ([],l)
 | n+1,l=>if snd l=0 then none else match readN n (l.drop (snd l)) with
  | none=>none
  | some (ns,r)=>some (fst l :: ns,r)
theorem readN_nums:∀ (n:Nat) (l:List UInt8) (ns:List Nat),readN n l=some (ns,[])↔(nums l=some ns∧ns.length=n)
 | 0,l,ns=>by
  simp only [readN,Option.some.injEq,Prod.mk.injEq,List.length_eq_zero_iff]
  constructor
  ·rintro ⟨rfl,rfl⟩;exact ⟨nums_nil,rfl⟩
  ·rintro ⟨h,rfl⟩
   refine ⟨rfl,?_⟩
   by_cases h1:l=[]
   ·exact h1
   ·by_cases h2:snd l=0
    ·rw [nums_none h1 h2] at h;cases h
    ·rw [nums_cons h1 h2] at h
     obtain ⟨ms,_,h4⟩:=Option.map_eq_some_iff.1 h
     cases h4
 | n+1,l,ns=>by
  have ih:=readN_nums n (l.drop (snd l))
  by_cases h2:snd l=0
  ·simp only [readN,h2,if_true]
   constructor
   ·intro h;cases h
   ·rintro ⟨h,h3⟩
    by_cases h1:l=[]
    ·subst h1;rw [nums_nil] at h;cases h;simp at h3
    ·rw [nums_none h1 h2] at h;cases h
  ·have h1:l≠[]:=by
    intro h;subst h;exact h2 (by have:=snd_le [];simpa using this)
   simp only [readN,h2,if_false]
   rw [nums_cons h1 h2]
   constructor
   ·intro h
    cases hr:readN n (l.drop (snd l)) with
    | none=>rw [hr] at h;cases h
    | some p =>
     obtain ⟨ms,r⟩:=p
     rw [hr] at h
     simp only [Option.some.injEq,Prod.mk.injEq] at h
     obtain ⟨rfl,rfl⟩:=h
     have:=(ih ms).1 hr
     rw [this.1]
     exact ⟨rfl,by simp [this.2]⟩
   ·rintro ⟨h,h3⟩
    obtain ⟨ms,h4,rfl⟩:=Option.map_eq_some_iff.1 h
    rw [(ih ms).2 ⟨h4,by simpa using h3⟩]
end Pl
end Go.Proofs.YtgcedalggnmooabGreatDoor
