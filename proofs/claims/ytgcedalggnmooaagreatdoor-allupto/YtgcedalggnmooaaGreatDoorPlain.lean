set_option linter.all false
namespace Go.Proofs.YtgcedalggnmooaaGreatDoor
def xc:=@List.length_append
def xe:=@Nat.le_refl
def xg:=@if_neg
def xh:=@if_pos
def xi:=@List.getElem?_eq_getElem
def xj:=@Nat.le_trans
def xk:=@Option.bind_some
def xl:=@Nat.lt_of_lt_of_le
def xn:=@List.take_succ_eq_append_getElem
def xq:=@List.length_set
def xr:=@beq_eq_false_iff_ne
def xt:=@Option.some.inj
def xw:=@List.getElem_of_mem
def xx:=@List.mem_append
def xy:=@decide_eq_false
def xz:=@List.mem_cons
def Xs:=@List.take_length
def Xt:=@decide_eq_true
def Xu:=@List.mem_map_of_mem
def Xv:=@List.map_cons
def Xw:=@List.length_singleton
def Xy:=@List.take_of_length_le
def Xz:=@List.mem_map
def XB:=@List.getElem?_set
def XC:=@Option.some.injEq
def XD:=@List.length_eq_zero_iff
def XE:=@List.pairwise_cons
def XF:=@Option.bind_none
def XH:=@List.getElem?_append_left
def XI:=@decide_eq_true_eq
def XJ:=@List.getElem?_eq_none
def XK:=@Bool.and_eq_true
def XL:=@List.length_take
def XM:=@List.length_drop
def XN:=@List.mem_singleton
def XO:=@List.length_nil
def XP:=@List.nodup_append
def XQ:=@Option.getD_some
def XR:=@ByteArray.size_extract
def XS:=@List.cons_append
def XU:=@List.mem_or_eq_of_mem_set
def XV:=@Bool.false_eq_true
def XW:=@List.contains_iff_mem
def XX:=@List.pairwise_iff_getElem
def XY:=@Prod.mk.injEq
def XZ:=@List.sum_cons
def ya:=@UInt8.toNat_inj
def yb:=@List.flatMap_cons
def yc:=@List.append_assoc
def ye:=@List.map_congr_left
def yf:=@List.not_mem_nil
def yj:=@List.nodup_cons
def yk:=@List.pairwise_map
def yn:=@decide_eq_false_iff_not
def yo:=@List.append_nil
def yp:=@UInt8.toNat_ofNat'
def yq:=@Array.length_toList
def yt:=@List.nodup_iff_pairwise_ne
def yu:=@List.take_append_drop
def yw:=@List.flatMap_append
def yx:=@Decidable.byContradiction
def yy:=@List.getElem_mem
def yz:=@UInt8.toNat_lt
def Ya:=@List.pairwise_append
def Yc:=@List.getElem?_append_right
def Yd:=@List.eraseIdx_of_length_le
def Ye:=@cond_false
def Yf:=@Bool.and_assoc
def Yg:=@List.mem_of_mem_take
def Yh:=@bne_iff_ne
def Yi:=@beq_iff_eq
def Yk:=@List.mem_filter
def Yl:=@Ne.symm
def Ym:=@Array.getElem?_push
def Yn:=@List.any_eq_false
def Yo:=@if_true
def Yq:=@List.map_append
def Yr:=@Nat.lt_irrefl
def Ys:=@Bool.eq_iff_iff
def Yu:=@List.map_set
def Yv:=@cond_true
def Yw:=@List.length_take_le
def Yx:=@List.length_pos_iff
def Yy:=@List.length_filter_le
def Yz:=@Nat.zero_add
def YA:=@List.foldl_cons
def YB:=@Bool.or_eq_true
def YC:=@List.find?_eq_none
def YE:=@List.filter_cons
def YF:=@if_false
def YH:=@List.mem_flatMap
def YJ:=@List.length_eraseIdx
def YK:=@congrArg
def YL:=@ByteArray.data_extract
def YN:=@List.perm_ext_iff_of_nodup
def YP:=@List.Perm.refl
def YQ:=@List.ext_getElem?
def YR:=@List.getD_eq_getElem?_getD
def YS:=@Option.map_eq_some_iff
def YU:=@List.range_succ
def YW:=@List.drop_eq_getElem_cons
def YX:=@Bool.and_eq_false_iff
def YZ:=@List.ext_getElem
def xaa:=@List.filter_append
def xab:=@Bool.true_and
def xac:=@List.map_map
def xad:=@List.set_eq_of_length_le
def xae:=@List.mem_cons_of_mem
def xag:=@Option.map_some
def xah:=@or_false
def xai:=@Nat.lt_or_ge
def xaj:=@Bool.or_false
def xak:=@List.all_eq_true
def xal:=@List.any_eq_true
def xam:=@Nat.xor_lt_two_pow
def xan:=@Array.getElem?_eq_some_iff
def xap:=@Nat.sub_self
def xaq:=@List.take_sublist
def xas:=@Nat.mul_le_mul_right
def xat:=@Bool.or_eq_false_iff
def xau:=@ByteArray.ext
def xav:=@List.length_erase_of_mem
def xaw:=@Iff.rfl
def xax:=@bne_eq_false_iff_eq
def xay:=@List.getD_cons_zero
def xaz:=@Bool.not_eq_true
def xaA:=@Bool.false_and
def xaB:=@Array.getElem?_eq_none
def xaC:=@Nat.lt_of_le_of_lt
def xaF:=@List.any_cons
def xaH:=@List.getElem?_map
def xaJ:=@Bool.and_false
def xaK:=@List.drop_zero
def xaM:=@Int.tmod_eq_emod_of_nonneg
def xaN:=@Nat.add_zero
def xaO:=@Nat.mod_eq_of_lt
def xaP:=@List.findIdx_map
def xaQ:=@List.flatMap_map
def xaR:=@List.nodup_range
def xaS:=@List.mem_of_find?_eq_some
def xaT:=@List.Pairwise.imp_of_mem
def xaX:=@List.nil_append
def xaY:=@List.getElem?_replicate
def xba:=@List.map_id
def xbb:=@List.eraseIdx_append_of_length_le
def xbc:=@List.eraseIdx_append_of_lt_length
def xbd:=@List.map_nil
def xbf:=@Int.toNat_natCast
def xbg:=@Nat.mul_comm
def xbh:=@Nat.testBit_eq_decide_div_mod_eq
def xbi:=@List.findIdx_lt_length
def xbj:=@List.drop_eq_nil_of_le
def xbk:=@Bool.not_eq_true'
def xbl:=@List.foldl_append
def xbm:=@bne_self_eq_false
def xbq:=@List.size_toArray
def xbr:=@List.length_replicate
def xbs:=@List.pairwise_and_iff
def xbt:=@decide_eq_decide
def xbu:=@List.getElem_map
def xbw:=@Array.eq_empty_of_size_eq_zero
def xbx:=@Nat.and_two_pow_sub_one_eq_mod
def xbz:=@Bool.and_true
def xbA:=@List.cons.inj
def xbB:=@Nat.pow_le_pow_right
def xbC:=@Array.toList_extract
def xbD:=@List.mem_erase_of_ne
def xbE:=@List.filter_nil
def xbF:=@List.filter_sublist
def xbG:=@List.filter_eq_self
def xbI:=@List.take_succ_cons
def xbJ:=@Nat.mul_le_mul_left
def xbK:=@Nat.sub_zero
def xbL:=@Nat.lt_trans
def xbN:=@List.getElem?_take
def xbP:=@Bool.not_false
def xbR:=@List.set_cons_succ
def xbS:=@List.getElem?_eq_some_iff
def xbU:=@List.getElem_take
def xbV:=@List.findIdx_cons
def xbW:=@List.find?_append
def xbY:=@Bool.false_or
def xca:=@Classical.axiomOfChoice
def xcb:=@Array.toList_inj
def xcc:=@Nat.testBit_mod_two_pow
def xcd:=@List.drop_length
def xce:=@List.getElem_inj
def xcf:=@List.eraseIdx_cons_succ
def xcg:=@Nat.le_add_right
def xch:=@beq_self_eq_true
def xci:=@Nat.add_sub_cancel_left
def xcj:=@List.lookup_cons
def xck:=@Option.getD_none
def xcm:=@Nat.le_of_lt
def xcn:=@Nat.le_of_eq
def xcp:=@List.findIdx_eq
def xcq:=@List.filter_map
def xcr:=@Nat.min_eq_left
def xct:=@List.any_append
def xcu:=@Array.size_push
def xcv:=@List.lookup_nil
def xcw:=@List.mem_range
def xcy:=@Bool.and_self
def xcz:=@List.take_add
def xcA:=@Nat.add_assoc
def xcB:=@Nat.mod_lt
def Ha(p:Prop):Prop:=p
def Ha.o{p:Prop}(h:Ha p):p:=h
def Wc{α:Type _}(l:List α)(i:Nat)(a:α):l.getD i a=(l[i]?).getD a:=YR
variable {l:List UInt8}{n:Nat}
namespace Pl
def NJ:Nat->Nat->List UInt8
 |0,n=>[UInt8.ofNat n]
 |k+1,n=>if n<128 then [UInt8.ofNat n] else UInt8.ofNat (n%128+128)::NJ k (n / 128)
def num(n:Nat):List UInt8:=NJ n n
def qZ(h:n<128):∀k,NJ k n=[UInt8.ofNat n]
 |0=>rfl
 |_+1=>xh h
def Kj:∀(k j n:Nat),n<=k->n<=j->NJ k n=NJ j n
 |0,j,n,hk,_=>by rw[qZ (by omega),qZ (by omega)]
 |k+1,j,n,hk,hj=>by
  by_cases h:n<128
  ·rw[qZ h,qZ h]
  match j,hj with
  |0,hj=>omega
  |j+1,hj=>
   have e:=Kj k j (n / 128) (by omega) (by omega);simp only[NJ,xg h,e]
def num_lt(h:n<128):num n=[UInt8.ofNat n]:=qZ h n
def num_ge(h:¬n<128):num n=UInt8.ofNat (n%128+128)::num (n / 128):=by
 have e:NJ n n=NJ (n-1+1) n:=by congr 1;omega
 rw[num,e,NJ,xg h,Kj (n-1) (n / 128) (n / 128) (by omega) (by omega),num]
def num_len_pos(n:Nat):1<=(num n).length:=by
 by_cases h:n<128
 ·rw[num_lt h];simp
 rw[num_ge h];simp
def uP:∀(k n:Nat),n<128^(k+1)->(num n).length<=k+1
 |0,n,h=>by rw[num_lt (by simpa using h)];simp
 |k+1,n,h=>by
  by_cases a:n<128
  ·rw[num_lt a];simp
  rw[num_ge a];have:=uP k (n / 128) (by rw[Nat.div_lt_iff_lt_mul (by omega)];rw[Nat.pow_succ]at h;exact h);simp;omega
def num_len(n:Nat)(h:n<9223372036854775808):(num n).length<=9:=uP 8 n (by simpa using h)
def val:List UInt8->Nat
 |[]=>0
 |b::r=>b.toNat%128+128*val r
def val_snoc(b:UInt8):∀l:List UInt8,val (l++[b])=val l+(b.toNat%128)*128^l.length
 |[]=>by simp[val]
 |c::r=>by
  have:=val_snoc b r
  simp only[XS,val,this,List.length_cons,Nat.pow_succ];rw[Nat.mul_add,<-xcA];congr 1;rw[xbg (128^r.length) 128,Nat.mul_left_comm]
def val_lt:∀l:List UInt8,val l<128^l.length
 |[]=>by simp[val]
 |c::r=>by
  have:=val_lt r
  simp only[val,List.length_cons,Nat.pow_succ];have a:c.toNat%128<128:=xcB _ (by omega);omega
def lead(l:List UInt8):Nat:=(l.takeWhile (λb=>128<=b.toNat)).length
def ok1(l:List UInt8):Bool:=decide (lead l<9)&&decide (lead l<l.length)&&!(decide (0<lead l)&&(l.getD (lead l) 1==0))
def fst(l:List UInt8):Nat:=if ok1 l then val (l.take (lead l+1)) else 0
def snd(l:List UInt8):Nat:=if ok1 l then lead l+1 else 0
def lead_cons(b:UInt8)(r:List UInt8):lead (b::r)=if 128<=b.toNat then lead r+1 else 0:=by
 unfold lead;rw[List.takeWhile_cons];by_cases h:128<=b.toNat<;>simp[h]
def JS:∀(k:Nat) (l:List UInt8),k<=l.length->(∀j,j<k->128<=(l.getD j 0).toNat)->k<=lead l
 |0,_,_,_=>Nat.zero_le _
 |k+1,[],h,_=>by simp at h
 |k+1,b::r,h,hj=>by
  rw[lead_cons,xh (by have:=hj 0 (by omega);simpa using this)];have:=JS k r (by simpa using h) (λj a=>by have:=hj (j+1) (by omega);simpa using this);omega
def AY:∀(k:Nat) (l:List UInt8),k<l.length->(∀j,j<k->128<=(l.getD j 0).toNat)->(l.getD k 0).toNat<128->lead l=k
 |0,[],h,_,_=>by simp at h
 |0,b::r,_,_,hs=>by rw[lead_cons,xg (by simp at hs;omega)]
 |k+1,[],h,_,_=>by simp at h
 |k+1,b::r,h,hj,hs=>by
  rw[lead_cons,xh (by have:=hj 0 (by omega);simpa using this)];have:=AY k r (by simpa using h) (λj a=>by have:=hj (j+1) (by omega);simpa using this) (by simpa using hs);omega
def UA(b:UInt8)(n:Nat)(h:n=b.toNat):UInt8.ofNat n=b:=by
 subst h;exact UInt8.ofNat_toNat
def num_val(b:UInt8)(k:b.toNat<128):∀l:List UInt8,(∀c∈l,128<=c.toNat)->((num (val (l++[b]))=l++[b])↔¬(0<l.length/\b=0))
 |[],_=>by
  simp only[xaX,val];rw[num_lt (by omega)];simp;exact UA b _ (by omega)
 |c::r,h=>by
  have s:=h c (by simp);have m:c.toNat<256:=yz c;have p:=num_val b k r (λx n=>h x (by simp[n]));simp only[XS,val];by_cases g:val (r++[b])=0
  · -- all noughts: then r is empty and b is 0
   have e:b=0:=by
    rw[val_snoc]at g;have a:b.toNat%128*128^r.length=0:=by omega
    have d:0<128^r.length:=Nat.pow_pos (by omega);have q:b.toNat%128=0:=by
     rcases Nat.mul_eq_zero.1 a with h|h
     ·exact h
     omega
    apply ya.1
    show b.toNat=0;omega
   rw[g,num_lt (by omega)];simp[e]
  have f:¬(c.toNat%128+128*val (r++[b])<128):=by omega
  rw[num_ge f];have i:(c.toNat%128+128*val (r++[b]))%128+128=c.toNat:=by omega
  have j:(c.toNat%128+128*val (r++[b])) / 128=val (r++[b]):=by omega
  rw[i,j,UInt8.ofNat_toNat];simp only[List.cons.injEq,true_and,List.length_cons];rw[p];constructor
  ·intro a d;apply a;refine⟨?_,d.2⟩
   cases r with
   |nil=>exfalso;apply g;simp[val,d.2]
   |cons=>simp
  intro a d;exact a ⟨by omega,d.2⟩
def take_snoc(l:List UInt8)(k:Nat)(h:k<l.length):l.take (k+1)=l.take k++[l.getD k 0]:=by
 rw[xn h];simp[YR,h]
def val_take_lt(l:List UInt8)(k:Nat)(h:k<=9):val (l.take k)<9223372036854775808:=by
 have b:=val_lt (l.take k);have a:(l.take k).length<=9:=by rw[XL];omega
 have c:128^(l.take k).length<=128^9:=xbB (by omega) a;have d:(128:Nat)^9=9223372036854775808:=by decide
 omega
def all_lead(l:List UInt8)(k:Nat)(e:k<=l.length)(h:∀j,j<k->128<=(l.getD j 0).toNat):∀c∈l.take k,128<=c.toNat:=by
 intro c b;obtain⟨j,d,rfl⟩:=xw b;have a:j<k:=by rw[XL]at d;omega
 have:=h j a
 rw[xbU];rw[YR,xi (by omega)]at this;simpa using this
def first_stop(l:List UInt8)(k:Nat)(n:k<9)(c:k<l.length)(h:∀j,j<k->128<=(l.getD j 0).toNat)(m:(l.getD k 0).toNat<128):(num (val (l.take (k+1)))=l.take (k+1)->fst l=val (l.take (k+1))/\snd l=k+1)/\(num (val (l.take (k+1)))≠l.take (k+1)->fst l=0/\snd l=0):=by
 have f:=AY k l c h m;have g:=num_val (l.getD k 0) m (l.take k) (all_lead l k (by omega) h);rw[<-take_snoc l k c]at g;have a:(l.take k).length=k:=by rw[XL];omega
 have hd:l.getD k 1=l.getD k 0:=by simp[YR,c]
 have i:ok1 l=true↔num (val (l.take (k+1)))=l.take (k+1):=by
  rw[g,a];simp[ok1,f,n,c,hd];constructor
  ·rintro(h|h) b
   ·omega
   exact h
  intro h;by_cases d:k=0
  ·exact Or.inl d
  exact Or.inr (h (by omega))
 constructor
 ·intro b;have:=i.2 b;simp[fst,snd,this,f]
 intro b;have:ok1 l=false:=by
  cases e:ok1 l
  ·rfl
  exact absurd (i.1 e) b
 simp[fst,snd,this]
def first_out(l:List UInt8)(k:Nat)(c:k<=9)(b:k<=l.length)(h:∀j,j<k->128<=(l.getD j 0).toNat)(a:k=9\/k=l.length):fst l=0/\snd l=0:=by
 have d:=JS k l b h;have:ok1 l=false:=by
  simp only[ok1,YX,yn];left;rcases a with a|a
  ·left;omega
  right;omega
 simp[fst,snd,this]
def snd_le(l:List UInt8):snd l<=l.length:=by
 unfold snd;split
 ·rename_i h;simp only[ok1,XK,XI]at h;omega
 omega
def snd_le9(l:List UInt8):snd l<=9:=by
 unfold snd;split
 ·rename_i h;simp only[ok1,XK,XI]at h;omega
 omega
def fst_lt(l:List UInt8):fst l<9223372036854775808:=by
 unfold fst;split
 ·rename_i h;simp only[ok1,XK,XI]at h;exact val_take_lt l _ (by omega)
 omega
def rB:Nat->List UInt8->Option (List Nat)
 |0,_=>some []
 |k+1,l=>if l=[] then some [] else if snd l=0 then none else (rB k (l.drop (snd l))).map (fst l::·)
def nums(l:List UInt8):Option (List Nat):=rB l.length l
def jV:∀k,rB k []=some []
 |0=>rfl
 |_+1=>by simp[rB]
def EZ:∀(k j:Nat) (l:List UInt8),l.length<=k->l.length<=j->rB k l=rB j l
 |0,j,l,hk,_=>by
  have h:l=[]:=XD.1 (by omega);subst h;rw[jV,jV]
 |k+1,j,l,hk,hj=>by
  by_cases h:l=[]
  ·subst h;rw[jV,jV]
  have b:0<l.length:=Yx.2 h;match j,hj with
  |0,hj=>omega
  |j+1,hj=>
   by_cases a:snd l=0
   ·simp only[rB,xg h,xh a]
   have hd:(l.drop (snd l)).length=l.length-snd l:=XM;have e:=EZ k j (l.drop (snd l)) (by omega) (by omega);simp only[rB,xg h,xg a,e]
def Bo(h:l≠[]):nums l=if snd l=0 then none else (nums (l.drop (snd l))).map (fst l::·):=by
 have b:0<l.length:=Yx.2 h;have e:rB l.length l=rB (l.length-1+1) l:=by congr 1;omega
 rw[nums,e,rB,xg h];by_cases a:snd l=0
 ·rw[xh a,xh a]
 have hd:(l.drop (snd l)).length=l.length-snd l:=XM;rw[xg a,xg a,nums,EZ (l.length-1) (l.drop (snd l)).length _ (by omega) (by omega)]
def nums_nil:nums []=some []:=rfl
def nums_none(h:l≠[])(a:snd l=0):nums l=none:=by rw[Bo h,xh a]
def nums_cons(h:l≠[])(a:snd l≠0):nums l=(nums (l.drop (snd l))).map (fst l::·):=by rw[Bo h,xg a]
def nums_len:∀(k:Nat) (l:List UInt8) (c:List Nat),l.length<=k->nums l=some c->c.length<=l.length
 |k,l,c,hk,h=>by
  by_cases a:l=[]
  ·subst a;rw[nums_nil]at h;cases h;simp
  by_cases d:snd l=0
  ·rw[nums_none a d]at h;cases h
  rw[nums_cons a d]at h;have f:0<l.length:=Yx.2 a;match k with
  |0=>omega
  |k+1=>
   obtain⟨e,b,rfl⟩:=YS.1 h;have hd:(l.drop (snd l)).length=l.length-snd l:=XM;have:=nums_len k (l.drop (snd l)) e (by omega) b;simp;omega
def nums_lt:∀(k:Nat) (l:List UInt8) (d:List Nat),l.length<=k->nums l=some d->∀n∈d,n<9223372036854775808
 |k,l,d,hk,h=>by
  by_cases a:l=[]
  ·subst a;rw[nums_nil]at h;cases h;simp
  by_cases e:snd l=0
  ·rw[nums_none a e]at h;cases h
  rw[nums_cons a e]at h;have g:0<l.length:=Yx.2 a;match k with
  |0=>omega
  |k+1=>
   obtain⟨f,b,rfl⟩:=YS.1 h;have hd:(l.drop (snd l)).length=l.length-snd l:=XM;have:=nums_lt k (l.drop (snd l)) f (by omega) b;intro n c;rcases xz.1 c with rfl|c
   ·exact fst_lt l
   exact this n c
def toldB(ns:List Nat):List UInt8:=(ns.map num).flatten
def Hz(a:List Nat)(n:Nat):toldB (a++[n])=toldB a++num n:=by simp[toldB]
def toldB_take(a:List Nat)(k:Nat)(h:k<a.length):toldB (a.take (k+1))=toldB (a.take k)++num (a.getD k 0):=by
 rw[xn h,Hz];simp[YR,h]
def toldB_len:∀(a:List Nat),(∀n∈a,n<9223372036854775808)->(toldB a).length<=9*a.length
 |[],_=>by simp[toldB]
 |n::r,h=>by
  have d:=num_len n (h n (by simp));have b:=toldB_len r (λx c=>h x (by simp[c]));simp only[toldB,Xv,List.flatten_cons,xc,List.length_cons]at b ⊢;omega
def kindsL:Nat->List UInt8
 |1=>[100]
 |2=>[105,105,99,100]
 |3=>[105,105,99]
 |4=>[105,105,105]
 |5=>[105,105,99,100,119]
 |6=>[105]
 |7=>[105]
 |8=>[105,105]
 |9=>[105,105]
 |10=>[105,99]
 |11=>[105]
 |12=>[105,100]
 |_=>[]
def mayB(kind:UInt8)(n:Nat):Bool :=
 if kind=105\/kind=99 then decide (1<=n)&&decide (n<=2147483647) else if kind=100 then decide (n<=2147483647) else decide (n<=3)
def mays:List UInt8->List Nat->Bool
 |k::ks,n::ns=>mayB k n&&mays ks ns
 |_,_=>true
abbrev Cmd:=Except Nat (Nat×List Nat)
def cmd(l:List UInt8):Cmd :=
 match l with
 |[]=>.error 1
 |c::r=>
  match nums r with
  |none=>.error 1
  |some ns=>if kindsL c.toNat=[]\/ns.length≠(kindsL c.toNat).length then .error 1 else if mays (kindsL c.toNat) ns then .ok (c.toNat,ns) else .error 2
def readN:Nat->List UInt8->Option (List Nat×List UInt8)
 |0,l=>some ([],l)
 |n+1,l=>if snd l=0 then none else match readN n (l.drop (snd l)) with
  |none=>none
  |some (ns,r)=>some (fst l::ns,r)
def readN_nums:∀(n:Nat) (l:List UInt8) (c:List Nat),readN n l=some (c,[])↔(nums l=some c/\c.length=n)
 |0,l,c=>by
  simp only[readN,XC,XY,XD];constructor
  ·rintro⟨rfl,rfl⟩;exact⟨nums_nil,rfl⟩
  rintro⟨h,rfl⟩;refine⟨rfl,?_⟩;by_cases a:l=[]
  ·exact a
  by_cases b:snd l=0
  ·rw[nums_none a b]at h;cases h
  rw[nums_cons a b]at h;obtain⟨d,_,f⟩:=YS.1 h
  cases f
 |n+1,l,c=>by
  have i:=readN_nums n (l.drop (snd l));by_cases b:snd l=0
  ·simp only[readN,b,Yo];constructor
   ·intro h;cases h
   rintro⟨h,e⟩;by_cases a:l=[]
   ·subst a;rw[nums_nil]at h;cases h;simp at e
   rw[nums_none a b]at h;cases h
  have a:l≠[]:=by
   intro h;subst h;exact b (by have:=snd_le [];simpa using this)
  simp only[readN,b,YF];rw[nums_cons a b];constructor
  ·intro h
   cases g:readN n (l.drop (snd l)) with
   |none=>rw[g]at h;cases h
   |some p=>
    obtain⟨d,r⟩:=p;rw[g]at h;simp only[XC,XY]at h;obtain⟨rfl,rfl⟩:=h;have:=(i d).1 g;rw[this.1];exact⟨rfl,by simp[this.2]⟩
  rintro⟨h,e⟩;obtain⟨d,f,rfl⟩:=YS.1 h;rw[(i d).2 ⟨f,by simpa using e⟩]
end Pl
