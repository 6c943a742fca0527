set_option linter.all false
namespace Go.Proofs.YtgcedalggnmooaaGreatDoor
def xb:=@List.length_append
def xc:=@Nat.le_refl
def xd:=@List.length_set
def xe:=@if_pos
def xg:=@if_neg
def xi:=@List.getElem?_eq_getElem
def xj:=@Nat.le_trans
def xk:=@Option.bind_some
def xl:=@List.take_succ_eq_append_getElem
def xn:=@Nat.lt_of_lt_of_le
def xp:=@beq_eq_false_iff_ne
def xr:=@Option.some.inj
def xt:=@List.getElem_of_mem
def xu:=@decide_eq_false
def xw:=@List.mem_append
def xx:=@List.mem_cons
def xy:=@decide_eq_true
def xz:=@Bool.eq_iff_iff
def Xa:=@List.take_length
def Xc:=@List.length_singleton
def Xd:=@List.getElem?_set
def Xe:=@List.mem_map_of_mem
def Xg:=@List.mem_map
def Xh:=@List.take_of_length_le
def Xj:=@Option.some.injEq
def Xk:=@List.getElem?_append_left
def Xl:=@List.length_map
def Xm:=@Option.bind_none
def Xn:=@List.length_eq_zero_iff
def Xo:=@List.getElem?_eq_none
def Xp:=@List.pairwise_cons
def Xq:=@List.mem_singleton
def Xs:=@List.length_drop
def Xt:=@List.length_take
def Xu:=@Bool.and_eq_true
def Xv:=@decide_eq_true_eq
def Xw:=@Option.getD_some
def Xx:=@List.nodup_append
def Xy:=@List.mem_or_eq_of_mem_set
def Xz:=@List.pairwise_iff_getElem
def XA:=@Bool.false_eq_true
def XB:=@List.length_nil
def XC:=@ByteArray.size_extract
def XD:=@Prod.mk.injEq
def XE:=@List.map_congr_left
def XF:=@List.cons_append
def XG:=@List.contains_iff_mem
def XI:=@UInt8.toNat_inj
def XK:=@Option.map_some
def XL:=@List.append_assoc
def XN:=@List.not_mem_nil
def XP:=@List.nodup_cons
def XR:=@List.append_nil
def XS:=@UInt8.toNat_ofNat'
def XT:=@List.flatMap_cons
def XU:=@List.take_append_drop
def XV:=@Decidable.byContradiction
def XW:=@List.mem_filter
def XX:=@UInt8.toNat_lt
def XY:=@List.pairwise_append
def XZ:=@Ne.symm
def ya:=@List.getElem?_append_right
def yb:=@List.getElem_mem
def yc:=@List.nodup_iff_pairwise_ne
def yd:=@List.eraseIdx_of_length_le
def ye:=@cond_false
def yf:=@Bool.and_assoc
def yi:=@List.pairwise_map
def yj:=@List.find?_eq_none
def yk:=@bne_iff_ne
def yl:=@beq_iff_eq
def yn:=@List.ext_getElem
def yo:=@Array.getElem?_push
def yp:=@List.any_eq_false
def yq:=@decide_eq_false_iff_not
def yt:=@List.mem_of_mem_take
def yu:=@List.map_set
def yw:=@cond_true
def yx:=@List.length_filter_le
def yy:=@List.set_eq_of_length_le
def yz:=@List.map_append
def Ya:=@List.map_map
def Yc:=@if_false
def Yd:=@List.filter_cons
def Ye:=@List.length_eraseIdx
def Yf:=@Nat.lt_irrefl
def Yg:=@ByteArray.data_extract
def Yj:=@List.ext_getElem?
def Yk:=@List.getD_eq_getElem?_getD
def Yl:=@Option.map_eq_some_iff
def Ym:=@List.length_take_le
def Yo:=@List.flatMap_append
def Yp:=@List.length_pos_iff
def Yq:=@List.foldl_cons
def Yr:=@List.mem_of_find?_eq_some
def Ys:=@List.filter_append
def Yt:=@List.any_eq_true
def Yu:=@Nat.zero_add
def Yv:=@Bool.true_and
def Yx:=@List.mem_cons_of_mem
def Yy:=@Bool.or_eq_true
def Yz:=@List.range_succ
def YA:=@congrArg
def YB:=@or_false
def YC:=@if_true
def YD:=@Nat.lt_or_ge
def YE:=@Iff.rfl
def YF:=@Bool.or_false
def YG:=@List.all_eq_true
def YH:=@Nat.xor_lt_two_pow
def YI:=@List.perm_ext_iff_of_nodup
def YJ:=@Array.getElem?_eq_some_iff
def YM:=@Nat.sub_self
def YN:=@ByteArray.ext
def YO:=@bne_eq_false_iff_eq
def YP:=@List.getD_cons_zero
def YQ:=@Bool.not_eq_true
def YR:=@Bool.false_and
def YS:=@List.mem_flatMap
def YT:=@List.Perm.refl
def YW:=@Array.getElem?_eq_none
def YX:=@Nat.lt_of_le_of_lt
def xaa:=@List.any_cons
def xac:=@Bool.and_eq_false_iff
def xad:=@List.take_sublist
def xaf:=@List.getElem?_map
def xah:=@Bool.and_false
def xai:=@List.drop_zero
def xaj:=@Nat.mul_le_mul_right
def xal:=@Nat.add_zero
def xam:=@List.findIdx_map
def xan:=@List.nodup_range
def xao:=@List.drop_eq_getElem_cons
def xap:=@List.length_erase_of_mem
def xas:=@List.getElem?_replicate
def xau:=@List.map_id
def xav:=@List.eraseIdx_append_of_length_le
def xaw:=@List.eraseIdx_append_of_lt_length
def xay:=@Int.toNat_natCast
def xaz:=@Nat.mul_comm
def xaA:=@Nat.testBit_eq_decide_div_mod_eq
def xaB:=@List.findIdx_lt_length
def xaC:=@List.drop_eq_nil_of_le
def xaD:=@Bool.not_eq_true'
def xaE:=@List.findIdx_cons
def xaF:=@bne_self_eq_false
def xaJ:=@List.length_replicate
def xaK:=@decide_eq_decide
def xaL:=@Nat.mod_eq_of_lt
def xaM:=@List.flatMap_map
def xaN:=@List.getElem_map
def xaO:=@Array.eq_empty_of_size_eq_zero
def xaP:=@Nat.and_two_pow_sub_one_eq_mod
def xaR:=@Bool.and_true
def xaS:=@List.cons.inj
def xaT:=@Nat.pow_le_pow_right
def xaU:=@Array.toList_extract
def xaV:=@List.mem_erase_of_ne
def xaW:=@Bool.or_eq_false_iff
def xaX:=@List.filter_nil
def xaY:=@List.filter_sublist
def xaZ:=@List.filter_eq_self
def xba:=@Nat.mul_le_mul_left
def xbc:=@List.take_succ_cons
def xbd:=@Nat.sub_zero
def xbf:=@List.getElem?_take
def xbh:=@Bool.not_false
def xbi:=@List.set_cons_succ
def xbk:=@List.getElem?_eq_some_iff
def xbl:=@List.getElem_take
def xbm:=@List.foldl_append
def xbn:=@List.find?_append
def xbp:=@List.Pairwise.imp_of_mem
def xbq:=@Bool.false_or
def xbs:=@Array.toList_inj
def xbt:=@Nat.testBit_mod_two_pow
def xbu:=@List.drop_length
def xbv:=@List.getElem_inj
def xbw:=@List.eraseIdx_cons_succ
def xbx:=@beq_self_eq_true
def xby:=@Nat.add_sub_cancel_left
def xbz:=@List.lookup_cons
def xbA:=@Option.getD_none
def xbD:=@List.map_nil
def xbE:=@Nat.le_of_lt
def xbF:=@Nat.lt_trans
def xbG:=@List.findIdx_eq
def xbH:=@List.find?_some
def xbI:=@List.any_append
def xbJ:=@Array.size_push
def xbK:=@List.nil_append
def xbL:=@List.lookup_nil
def xbM:=@List.filter_map
def xbN:=@List.mem_range
def xbP:=@Bool.and_self
def xbQ:=@List.take_add
def xbR:=@Nat.add_assoc
def xbS:=@Nat.mod_lt
def Ha(p:Prop):Prop:=p
theorem Ha.o{p:Prop}(h:Ha p):p:=h
theorem Uv{α:Type _}(l:List α)(i:Nat)(a:α):l.getD i a=(l[i]?).getD a:=Yk
variable {l:List UInt8}{n:Nat}
namespace Pl
def MB:Nat->Nat->List UInt8
 |0,n=>[UInt8.ofNat n]
 |k+1,n=>if n<128 then [UInt8.ofNat n] else UInt8.ofNat (n%128+128)::MB k (n / 128)
def num(n:Nat):List UInt8:=MB n n
theorem qI(h:n<128):∀k,MB k n=[UInt8.ofNat n]
 |0=>rfl
 |_+1=>xe h
theorem Jl:∀(k j n:Nat),n<=k->n<=j->MB k n=MB j n
 |0,j,n,hk,_=>by rw[qI (by omega),qI (by omega)]
 |k+1,j,n,hk,hj=>by
  by_cases h:n<128
  ·rw[qI h,qI h]
  match j,hj with
  |0,hj=>omega
  |j+1,hj=>
   have e:=Jl k j (n / 128) (by omega) (by omega);simp only[MB,xg h,e]
theorem num_lt(h:n<128):num n=[UInt8.ofNat n]:=qI h n
theorem num_ge(h:¬n<128):num n=UInt8.ofNat (n%128+128)::num (n / 128):=by
 have e:MB n n=MB (n-1+1) n:=by congr 1;omega
 rw[num,e,MB,xg h,Jl (n-1) (n / 128) (n / 128) (by omega) (by omega),num]
theorem num_len_pos(n:Nat):1<=(num n).length:=by
 by_cases h:n<128
 ·rw[num_lt h];simp
 rw[num_ge h];simp
theorem uA:∀(k n:Nat),n<128^(k+1)->(num n).length<=k+1
 |0,n,h=>by rw[num_lt (by simpa using h)];simp
 |k+1,n,h=>by
  by_cases a:n<128
  ·rw[num_lt a];simp
  rw[num_ge a];have:=uA k (n / 128) (by rw[Nat.div_lt_iff_lt_mul (by omega)];rw[Nat.pow_succ]at h;exact h);simp;omega
theorem num_len(n:Nat)(h:n<9223372036854775808):(num n).length<=9:=uA 8 n (by simpa using h)
def val:List UInt8->Nat
 |[]=>0
 |b::r=>b.toNat%128+128*val r
theorem val_snoc(b:UInt8):∀l:List UInt8,val (l++[b])=val l+(b.toNat%128)*128^l.length
 |[]=>by simp[val]
 |c::r=>by
  have:=val_snoc b r
  simp only[XF,val,this,List.length_cons,Nat.pow_succ];rw[Nat.mul_add,<-xbR];congr 1;rw[xaz (128^r.length) 128,Nat.mul_left_comm]
theorem val_lt:∀l:List UInt8,val l<128^l.length
 |[]=>by simp[val]
 |c::r=>by
  have:=val_lt r
  simp only[val,List.length_cons,Nat.pow_succ];have a:c.toNat%128<128:=xbS _ (by omega);omega
def lead(l:List UInt8):Nat:=(l.takeWhile (λb=>128<=b.toNat)).length
def ok1(l:List UInt8):Bool:=decide (lead l<9)&&decide (lead l<l.length)&&!(decide (0<lead l)&&(l.getD (lead l) 1==0))
def fst(l:List UInt8):Nat:=if ok1 l then val (l.take (lead l+1)) else 0
def snd(l:List UInt8):Nat:=if ok1 l then lead l+1 else 0
theorem lead_cons(b:UInt8)(r:List UInt8):lead (b::r)=if 128<=b.toNat then lead r+1 else 0:=by
 unfold lead;rw[List.takeWhile_cons];by_cases h:128<=b.toNat<;>simp[h]
theorem IV:∀(k:Nat) (l:List UInt8),k<=l.length->(∀j,j<k->128<=(l.getD j 0).toNat)->k<=lead l
 |0,_,_,_=>Nat.zero_le _
 |k+1,[],h,_=>by simp at h
 |k+1,b::r,h,hj=>by
  rw[lead_cons,xe (by have:=hj 0 (by omega);simpa using this)];have:=IV k r (by simpa using h) (λj a=>by have:=hj (j+1) (by omega);simpa using this);omega
theorem Az:∀(k:Nat) (l:List UInt8),k<l.length->(∀j,j<k->128<=(l.getD j 0).toNat)->(l.getD k 0).toNat<128->lead l=k
 |0,[],h,_,_=>by simp at h
 |0,b::r,_,_,hs=>by rw[lead_cons,xg (by simp at hs;omega)]
 |k+1,[],h,_,_=>by simp at h
 |k+1,b::r,h,hj,hs=>by
  rw[lead_cons,xe (by have:=hj 0 (by omega);simpa using this)];have:=Az k r (by simpa using h) (λj a=>by have:=hj (j+1) (by omega);simpa using this) (by simpa using hs);omega
theorem SY(b:UInt8)(n:Nat)(h:n=b.toNat):UInt8.ofNat n=b:=by
 subst h;exact UInt8.ofNat_toNat
theorem num_val(b:UInt8)(k:b.toNat<128):∀l:List UInt8,(∀c∈l,128<=c.toNat)->((num (val (l++[b]))=l++[b])↔¬(0<l.length/\b=0))
 |[],_=>by
  simp only[xbK,val];rw[num_lt (by omega)];simp;exact SY b _ (by omega)
 |c::r,h=>by
  have s:=h c (by simp);have m:c.toNat<256:=XX c;have p:=num_val b k r (λx n=>h x (by simp[n]));simp only[XF,val];by_cases g:val (r++[b])=0
  · -- all noughts: then r is empty and b is 0
   have e:b=0:=by
    rw[val_snoc]at g;have a:b.toNat%128*128^r.length=0:=by omega
    have d:0<128^r.length:=Nat.pow_pos (by omega);have q:b.toNat%128=0:=by
     rcases Nat.mul_eq_zero.1 a with h|h
     ·exact h
     omega
    apply XI.1
    show b.toNat=0;omega
   rw[g,num_lt (by omega)];simp[e]
  have f:¬(c.toNat%128+128*val (r++[b])<128):=by omega
  rw[num_ge f];have i:(c.toNat%128+128*val (r++[b]))%128+128=c.toNat:=by omega
  have j:(c.toNat%128+128*val (r++[b])) / 128=val (r++[b]):=by omega
  rw[i,j,UInt8.ofNat_toNat];simp only[List.cons.injEq,true_and,List.length_cons];rw[p];constructor
  ·intro a d;apply a;refine⟨?_,d.2⟩
   cases r with
   |nil=>exfalso;apply g;simp[val,d.2]
   |cons=>simp
  intro a d;exact a ⟨by omega,d.2⟩
theorem take_snoc(l:List UInt8)(k:Nat)(h:k<l.length):l.take (k+1)=l.take k++[l.getD k 0]:=by
 rw[xl h];simp[Yk,h]
theorem val_take_lt(l:List UInt8)(k:Nat)(h:k<=9):val (l.take k)<9223372036854775808:=by
 have b:=val_lt (l.take k);have a:(l.take k).length<=9:=by rw[Xt];omega
 have c:128^(l.take k).length<=128^9:=xaT (by omega) a;have d:(128:Nat)^9=9223372036854775808:=by decide
 omega
theorem all_lead(l:List UInt8)(k:Nat)(e:k<=l.length)(h:∀j,j<k->128<=(l.getD j 0).toNat):∀c∈l.take k,128<=c.toNat:=by
 intro c b;obtain⟨j,d,rfl⟩:=xt b;have a:j<k:=by rw[Xt]at d;omega
 have:=h j a
 rw[xbl];rw[Yk,xi (by omega)]at this;simpa using this
theorem first_stop(l:List UInt8)(k:Nat)(n:k<9)(c:k<l.length)(h:∀j,j<k->128<=(l.getD j 0).toNat)(m:(l.getD k 0).toNat<128):(num (val (l.take (k+1)))=l.take (k+1)->fst l=val (l.take (k+1))/\snd l=k+1)/\(num (val (l.take (k+1)))≠l.take (k+1)->fst l=0/\snd l=0):=by
 have f:=Az k l c h m;have g:=num_val (l.getD k 0) m (l.take k) (all_lead l k (by omega) h);rw[<-take_snoc l k c]at g;have a:(l.take k).length=k:=by rw[Xt];omega
 have hd:l.getD k 1=l.getD k 0:=by simp[Yk,c]
 have i:ok1 l=true↔num (val (l.take (k+1)))=l.take (k+1):=by
  rw[g,a];simp[ok1,f,n,c,hd];constructor
  ·rintro(h|h) b
   ·omega
   exact h
  intro h;by_cases d:k=0
  ·exact Or.inl d
  exact Or.inr (h (by omega))
 constructor
 ·intro b;have:=i.2 b;simp[fst,snd,this,f]
 intro b;have:ok1 l=false:=by
  cases e:ok1 l
  ·rfl
  exact absurd (i.1 e) b
 simp[fst,snd,this]
theorem first_out(l:List UInt8)(k:Nat)(c:k<=9)(b:k<=l.length)(h:∀j,j<k->128<=(l.getD j 0).toNat)(a:k=9\/k=l.length):fst l=0/\snd l=0:=by
 have d:=IV k l b h;have:ok1 l=false:=by
  simp only[ok1,xac,yq];left;rcases a with a|a
  ·left;omega
  right;omega
 simp[fst,snd,this]
theorem snd_le(l:List UInt8):snd l<=l.length:=by
 unfold snd;split
 ·rename_i h;simp only[ok1,Xu,Xv]at h;omega
 omega
theorem snd_le9(l:List UInt8):snd l<=9:=by
 unfold snd;split
 ·rename_i h;simp only[ok1,Xu,Xv]at h;omega
 omega
theorem fst_lt(l:List UInt8):fst l<9223372036854775808:=by
 unfold fst;split
 ·rename_i h;simp only[ok1,Xu,Xv]at h;exact val_take_lt l _ (by omega)
 omega
def qK:Nat->List UInt8->Option (List Nat)
 |0,_=>some []
 |k+1,l=>if l=[] then some [] else if snd l=0 then none else (qK k (l.drop (snd l))).map (fst l::·)
def nums(l:List UInt8):Option (List Nat):=qK l.length l
theorem jK:∀k,qK k []=some []
 |0=>rfl
 |_+1=>by simp[qK]
theorem Ey:∀(k j:Nat) (l:List UInt8),l.length<=k->l.length<=j->qK k l=qK j l
 |0,j,l,hk,_=>by
  have h:l=[]:=Xn.1 (by omega);subst h;rw[jK,jK]
 |k+1,j,l,hk,hj=>by
  by_cases h:l=[]
  ·subst h;rw[jK,jK]
  have b:0<l.length:=Yp.2 h;match j,hj with
  |0,hj=>omega
  |j+1,hj=>
   by_cases a:snd l=0
   ·simp only[qK,xg h,xe a]
   have hd:(l.drop (snd l)).length=l.length-snd l:=Xs;have e:=Ey k j (l.drop (snd l)) (by omega) (by omega);simp only[qK,xg h,xg a,e]
theorem AJ(h:l≠[]):nums l=if snd l=0 then none else (nums (l.drop (snd l))).map (fst l::·):=by
 have b:0<l.length:=Yp.2 h;have e:qK l.length l=qK (l.length-1+1) l:=by congr 1;omega
 rw[nums,e,qK,xg h];by_cases a:snd l=0
 ·rw[xe a,xe a]
 have hd:(l.drop (snd l)).length=l.length-snd l:=Xs;rw[xg a,xg a,nums,Ey (l.length-1) (l.drop (snd l)).length _ (by omega) (by omega)]
theorem nums_nil:nums []=some []:=rfl
theorem nums_none(h:l≠[])(a:snd l=0):nums l=none:=by rw[AJ h,xe a]
theorem nums_cons(h:l≠[])(a:snd l≠0):nums l=(nums (l.drop (snd l))).map (fst l::·):=by rw[AJ h,xg a]
theorem nums_len:∀(k:Nat) (l:List UInt8) (c:List Nat),l.length<=k->nums l=some c->c.length<=l.length
 |k,l,c,hk,h=>by
  by_cases a:l=[]
  ·subst a;rw[nums_nil]at h;cases h;simp
  by_cases d:snd l=0
  ·rw[nums_none a d]at h;cases h
  rw[nums_cons a d]at h;have f:0<l.length:=Yp.2 a;match k with
  |0=>omega
  |k+1=>
   obtain⟨e,b,rfl⟩:=Yl.1 h;have hd:(l.drop (snd l)).length=l.length-snd l:=Xs;have:=nums_len k (l.drop (snd l)) e (by omega) b;simp;omega
theorem nums_lt:∀(k:Nat) (l:List UInt8) (d:List Nat),l.length<=k->nums l=some d->∀n∈d,n<9223372036854775808
 |k,l,d,hk,h=>by
  by_cases a:l=[]
  ·subst a;rw[nums_nil]at h;cases h;simp
  by_cases e:snd l=0
  ·rw[nums_none a e]at h;cases h
  rw[nums_cons a e]at h;have g:0<l.length:=Yp.2 a;match k with
  |0=>omega
  |k+1=>
   obtain⟨f,b,rfl⟩:=Yl.1 h;have hd:(l.drop (snd l)).length=l.length-snd l:=Xs;have:=nums_lt k (l.drop (snd l)) f (by omega) b;intro n c;rcases xx.1 c with rfl|c
   ·exact fst_lt l
   exact this n c
def toldB(ns:List Nat):List UInt8:=(ns.map num).flatten
theorem GJ(a:List Nat)(n:Nat):toldB (a++[n])=toldB a++num n:=by simp[toldB]
theorem toldB_take(a:List Nat)(k:Nat)(h:k<a.length):toldB (a.take (k+1))=toldB (a.take k)++num (a.getD k 0):=by
 rw[xl h,GJ];simp[Yk,h]
theorem toldB_len:∀(a:List Nat),(∀n∈a,n<9223372036854775808)->(toldB a).length<=9*a.length
 |[],_=>by simp[toldB]
 |n::r,h=>by
  have d:=num_len n (h n (by simp));have b:=toldB_len r (λx c=>h x (by simp[c]));simp only[toldB,List.map_cons,List.flatten_cons,xb,List.length_cons]at b ⊢;omega
def kindsL:Nat->List UInt8
 |1=>[100]
 |2=>[105,105,99,100]
 |3=>[105,105,99]
 |4=>[105,105,105]
 |5=>[105,105,99,100,119]
 |6=>[105]
 |7=>[105]
 |8=>[105,105]
 |9=>[105,105]
 |10=>[105,99]
 |11=>[105]
 |12=>[105,100]
 |_=>[]
def mayB(kind:UInt8)(n:Nat):Bool :=
 if kind=105\/kind=99 then decide (1<=n)&&decide (n<=2147483647) else if kind=100 then decide (n<=2147483647) else decide (n<=3)
def mays:List UInt8->List Nat->Bool
 |k::ks,n::ns=>mayB k n&&mays ks ns
 |_,_=>true
abbrev Cmd:=Except Nat (Nat×List Nat)
def cmd(l:List UInt8):Cmd :=
 match l with
 |[]=>.error 1
 |c::r=>
  match nums r with
  |none=>.error 1
  |some ns=>if kindsL c.toNat=[]\/ns.length≠(kindsL c.toNat).length then .error 1 else if mays (kindsL c.toNat) ns then .ok (c.toNat,ns) else .error 2
def readN:Nat->List UInt8->Option (List Nat×List UInt8)
 |0,l=>some ([],l)
 |n+1,l=>if snd l=0 then none else match readN n (l.drop (snd l)) with
  |none=>none
  |some (ns,r)=>some (fst l::ns,r)
theorem readN_nums:∀(n:Nat) (l:List UInt8) (c:List Nat),readN n l=some (c,[])↔(nums l=some c/\c.length=n)
 |0,l,c=>by
  simp only[readN,Xj,XD,Xn];constructor
  ·rintro⟨rfl,rfl⟩;exact⟨nums_nil,rfl⟩
  rintro⟨h,rfl⟩;refine⟨rfl,?_⟩;by_cases a:l=[]
  ·exact a
  by_cases b:snd l=0
  ·rw[nums_none a b]at h;cases h
  rw[nums_cons a b]at h;obtain⟨d,_,f⟩:=Yl.1 h
  cases f
 |n+1,l,c=>by
  have i:=readN_nums n (l.drop (snd l));by_cases b:snd l=0
  ·simp only[readN,b,YC];constructor
   ·intro h;cases h
   rintro⟨h,e⟩;by_cases a:l=[]
   ·subst a;rw[nums_nil]at h;cases h;simp at e
   rw[nums_none a b]at h;cases h
  have a:l≠[]:=by
   intro h;subst h;exact b (by have:=snd_le [];simpa using this)
  simp only[readN,b,Yc];rw[nums_cons a b];constructor
  ·intro h
   cases g:readN n (l.drop (snd l)) with
   |none=>rw[g]at h;cases h
   |some p=>
    obtain⟨d,r⟩:=p;rw[g]at h;simp only[Xj,XD]at h;obtain⟨rfl,rfl⟩:=h;have:=(i d).1 g;rw[this.1];exact⟨rfl,by simp[this.2]⟩
  rintro⟨h,e⟩;obtain⟨d,f,rfl⟩:=Yl.1 h;rw[(i d).2 ⟨f,by simpa using e⟩]
end Pl
