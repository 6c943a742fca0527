set_option linter.all false
namespace Go.Proofs.YtgcedalggnmooaaGreatDoor
open Option renaming some->Y
def xc:=@List.length_append
def xe:=@Nat.le_refl
def xg:=@if_neg
def xh:=@if_pos
def xi:=@Nat.le_trans
def xj:=@List.getElem?_eq_getElem
def xk:=@Option.bind_some
def xl:=@Nat.lt_of_lt_of_le
def xn:=@List.take_succ_eq_append_getElem
def xp:=@List.length_set
def xr:=@beq_eq_false_iff_ne
def xt:=@Option.some.inj
def xw:=@List.getElem_of_mem
def xx:=@List.mem_append
def xy:=@decide_eq_false
def xz:=@List.mem_cons
def XX:=@List.length_singleton
def XY:=@List.map_cons
def XZ:=@List.take_length
def ya:=@decide_eq_true
def yb:=@List.mem_map_of_mem
def yc:=@List.mem_map
def ye:=@List.take_of_length_le
def yi:=@List.getElem?_set
def yj:=@List.getElem?_append_left
def yk:=@Option.some.injEq
def yl:=@List.length_eq_zero_iff
def ym:=@List.pairwise_cons
def yn:=@Option.bind_none
def yo:=@List.getElem?_eq_none
def yp:=@List.mem_singleton
def yr:=@decide_eq_true_eq
def yt:=@Bool.and_eq_true
def yu:=@List.length_take
def yw:=@List.length_drop
def yx:=@List.length_nil
def yy:=@List.nodup_append
def yz:=@Option.getD_some
def Ya:=@ByteArray.size_extract
def Yb:=@List.cons_append
def Yd:=@List.mem_or_eq_of_mem_set
def Ye:=@List.pairwise_iff_getElem
def Yf:=@List.sum_cons
def Yg:=@Bool.false_eq_true
def Yh:=@List.contains_iff_mem
def Yi:=@Prod.mk.injEq
def Yj:=@List.map_congr_left
def Yk:=@UInt8.toNat_inj
def Yl:=@List.flatMap_cons
def Ym:=@List.append_assoc
def Yn:=@List.pairwise_map
def Yp:=@List.not_mem_nil
def Yq:=@List.nodup_cons
def Yu:=@List.nodup_iff_pairwise_ne
def Yv:=@decide_eq_false_iff_not
def Yw:=@List.append_nil
def Yx:=@UInt8.toNat_ofNat'
def Yy:=@Array.length_toList
def Yz:=@List.take_append_drop
def YA:=@List.flatMap_append
def YB:=@Decidable.byContradiction
def YC:=@List.mem_filter
def YD:=@List.getElem_mem
def YF:=@UInt8.toNat_lt
def YG:=@List.pairwise_append
def YH:=@Bool.eq_iff_iff
def YI:=@List.getElem?_append_right
def YJ:=@List.eraseIdx_of_length_le
def YK:=@cond_false
def YL:=@Bool.and_assoc
def YM:=@Ne.symm
def YN:=@List.mem_of_mem_take
def YO:=@List.find?_eq_none
def YP:=@bne_iff_ne
def YQ:=@beq_iff_eq
def YS:=@List.foldl_cons
def YT:=@List.ext_getElem
def YU:=@Array.getElem?_push
def YW:=@List.any_eq_false
def YX:=@if_true
def YZ:=@List.map_append
def xaa:=@Nat.lt_irrefl
def xac:=@List.map_set
def xad:=@cond_true
def xae:=@List.length_take_le
def xaf:=@List.length_pos_iff
def xag:=@List.length_filter_le
def xah:=@List.set_eq_of_length_le
def xai:=@List.map_map
def xaj:=@Nat.zero_add
def xak:=@Bool.or_eq_true
def xam:=@if_false
def xan:=@List.filter_cons
def xao:=@List.mem_flatMap
def xap:=@List.any_eq_true
def xar:=@List.length_eraseIdx
def xas:=@congrArg
def xat:=@ByteArray.data_extract
def xav:=@List.perm_ext_iff_of_nodup
def xax:=@List.Perm.refl
def xay:=@List.ext_getElem?
def xaz:=@List.getD_eq_getElem?_getD
def xaA:=@Option.map_eq_some_iff
def xaC:=@List.range_succ
def xaD:=@List.drop_eq_getElem_cons
def xaE:=@List.mem_of_find?_eq_some
def xaF:=@Bool.and_eq_false_iff
def xaH:=@List.filter_append
def xaI:=@Nat.lt_or_ge
def xaJ:=@Bool.true_and
def xaK:=@List.mem_cons_of_mem
def xaM:=@Option.map_some
def xaN:=@or_false
def xaO:=@Bool.or_false
def xaP:=@List.all_eq_true
def xaQ:=@Nat.xor_lt_two_pow
def xaR:=@Array.getElem?_eq_some_iff
def xaT:=@Nat.sub_self
def xaU:=@List.take_sublist
def xaW:=@Nat.mul_le_mul_right
def xaX:=@Bool.or_eq_false_iff
def xaY:=@ByteArray.ext
def xaZ:=@List.length_erase_of_mem
def xba:=@Iff.rfl
def xbb:=@bne_eq_false_iff_eq
def xbc:=@List.getD_cons_zero
def xbd:=@Bool.not_eq_true
def xbe:=@Bool.false_and
def xbf:=@Array.getElem?_eq_none
def xbg:=@Nat.lt_of_le_of_lt
def xbj:=@List.any_cons
def xbm:=@List.getElem?_map
def xbn:=@Int.tmod_eq_emod_of_nonneg
def xbo:=@Bool.and_false
def xbp:=@List.drop_zero
def xbr:=@Nat.add_zero
def xbs:=@Nat.mod_eq_of_lt
def xbt:=@List.findIdx_map
def xbu:=@List.flatMap_map
def xbv:=@List.nodup_range
def xbw:=@List.Pairwise.imp_of_mem
def xbA:=@List.nil_append
def xbB:=@List.set_cons_succ
def xbC:=@List.getElem?_replicate
def xbE:=@List.map_id
def xbF:=@List.eraseIdx_append_of_length_le
def xbG:=@List.eraseIdx_append_of_lt_length
def xbH:=@List.map_nil
def xbJ:=@Int.toNat_natCast
def xbK:=@Nat.mul_comm
def xbL:=@Nat.testBit_eq_decide_div_mod_eq
def xbM:=@List.findIdx_lt_length
def xbN:=@List.drop_eq_nil_of_le
def xbO:=@Bool.not_eq_true'
def xbP:=@List.findIdx_cons
def xbQ:=@List.foldl_append
def xbR:=@bne_self_eq_false
def xbV:=@List.size_toArray
def xbW:=@List.length_replicate
def xbX:=@List.pairwise_and_iff
def xbZ:=@decide_eq_decide
def xca:=@List.getElem_map
def xcb:=@Array.eq_empty_of_size_eq_zero
def xcc:=@Nat.and_two_pow_sub_one_eq_mod
def xce:=@Bool.and_true
def xcf:=@List.cons.inj
def xcg:=@Nat.pow_le_pow_right
def xch:=@Array.toList_extract
def xci:=@List.mem_erase_of_ne
def xcj:=@List.filter_nil
def xck:=@List.filter_sublist
def xcl:=@List.filter_eq_self
def xcm:=@Nat.mul_le_mul_left
def xcn:=@List.getD_cons_succ
def xcp:=@List.take_succ_cons
def xcq:=@Nat.sub_zero
def xcr:=@Nat.lt_trans
def xct:=@List.getElem?_take
def xcv:=@Bool.not_false
def xcx:=@List.getElem?_eq_some_iff
def xcz:=@List.getElem_take
def xcA:=@List.find?_append
def xcC:=@Bool.false_or
def xcE:=@Nat.le_add_right
def xcF:=@Classical.axiomOfChoice
def xcG:=@Array.toList_inj
def xcH:=@Nat.testBit_mod_two_pow
def xcI:=@List.drop_length
def xcJ:=@List.getElem_inj
def xcK:=@List.eraseIdx_cons_succ
def xcL:=@beq_self_eq_true
def xcM:=@Nat.add_sub_cancel_left
def xcN:=@List.lookup_cons
def xcO:=@Option.getD_none
def xcQ:=@Nat.le_of_eq
def xcR:=@Nat.le_of_lt
def xcT:=@List.findIdx_eq
def xcU:=@List.find?_some
def xcV:=@Nat.min_eq_left
def xcX:=@List.any_append
def xcY:=@Array.size_push
def xcZ:=@List.lookup_nil
def xda:=@List.filter_map
def xdb:=@List.mem_range
def xdd:=@Bool.and_self
def xde:=@List.take_add
def xdf:=@Nat.add_assoc
def xdg:=@Nat.mod_lt
def Ha(p:Prop):Prop:=p
def Ha.o{p:Prop}(h:Ha p):p:=h
def WI{α:Type _}(l:List α)(i:Nat)(a:α):l.getD i a=(l[i]?).getD a:=xaz
variable {l:List UInt8}{n:Nat}
namespace Pl
def Ot:Nat->Nat->List UInt8
 |0,n=>[UInt8.ofNat n]
 |k+1,n=>if n<128 then [UInt8.ofNat n] else UInt8.ofNat (n%128+128)::Ot k (n / 128)
def num(n:Nat):List UInt8:=Ot n n
def rD(h:n<128):∀k,Ot k n=[UInt8.ofNat n]
 |0=>rfl
 |_+1=>xh h
def KV:∀(k j n:Nat),n<=k->n<=j->Ot k n=Ot j n
 |0,j,n,hk,_=>by rw[rD (by omega),rD (by omega)]
 |k+1,j,n,hk,hj=>by
  by_cases h:n<128
  ·rw[rD h,rD h]
  match j,hj with
  |0,hj=>omega
  |j+1,hj=>
   have e:=KV k j (n / 128) (by omega) (by omega);simp only[Ot,xg h,e]
def num_lt(h:n<128):num n=[UInt8.ofNat n]:=rD h n
def num_ge(h:¬n<128):num n=UInt8.ofNat (n%128+128)::num (n / 128):=by
 have e:Ot n n=Ot (n-1+1) n:=by congr 1;omega
 rw[num,e,Ot,xg h,KV (n-1) (n / 128) (n / 128) (by omega) (by omega),num]
def num_len_pos(n:Nat):1<=(num n).length:=by
 by_cases h:n<128
 ·rw[num_lt h];simp
 rw[num_ge h];simp
def uW:∀(k n:Nat),n<128^(k+1)->(num n).length<=k+1
 |0,n,h=>by rw[num_lt (by simpa using h)];simp
 |k+1,n,h=>by
  by_cases a:n<128
  ·rw[num_lt a];simp
  rw[num_ge a];have:=uW k (n / 128) (by rw[Nat.div_lt_iff_lt_mul (by omega)];rw[Nat.pow_succ]at h;exact h);simp;omega
def num_len(n:Nat)(h:n<9223372036854775808):(num n).length<=9:=uW 8 n (by simpa using h)
def val:List UInt8->Nat
 |[]=>0
 |b::r=>b.toNat%128+128*val r
def val_snoc(b:UInt8):∀l:List UInt8,val (l++[b])=val l+(b.toNat%128)*128^l.length
 |[]=>by simp[val]
 |c::r=>by
  have:=val_snoc b r
  simp only[Yb,val,this,List.length_cons,Nat.pow_succ];rw[Nat.mul_add,<-xdf];congr 1;rw[xbK (128^r.length) 128,Nat.mul_left_comm]
def val_lt:∀l:List UInt8,val l<128^l.length
 |[]=>by simp[val]
 |c::r=>by
  have:=val_lt r
  simp only[val,List.length_cons,Nat.pow_succ];have a:c.toNat%128<128:=xdg _ (by omega);omega
def lead(l:List UInt8):Nat:=(l.takeWhile (λb=>128<=b.toNat)).length
def ok1(l:List UInt8):Bool:=decide (lead l<9)&&decide (lead l<l.length)&&!(decide (0<lead l)&&(l.getD (lead l) 1==0))
def fst(l:List UInt8):Nat:=if ok1 l then val (l.take (lead l+1)) else 0
def snd(l:List UInt8):Nat:=if ok1 l then lead l+1 else 0
def lead_cons(b:UInt8)(r:List UInt8):lead (b::r)=if 128<=b.toNat then lead r+1 else 0:=by
 unfold lead;rw[List.takeWhile_cons];by_cases h:128<=b.toNat<;>simp[h]
def Ko:∀(k:Nat) (l:List UInt8),k<=l.length->(∀j,j<k->128<=(l.getD j 0).toNat)->k<=lead l
 |0,_,_,_=>Nat.zero_le _
 |k+1,[],h,_=>by simp at h
 |k+1,b::r,h,hj=>by
  rw[lead_cons,xh (by have:=hj 0 (by omega);simpa using this)];have:=Ko k r (by simpa using h) (λj a=>by have:=hj (j+1) (by omega);simpa using this);omega
def Bn:∀(k:Nat) (l:List UInt8),k<l.length->(∀j,j<k->128<=(l.getD j 0).toNat)->(l.getD k 0).toNat<128->lead l=k
 |0,[],h,_,_=>by simp at h
 |0,b::r,_,_,hs=>by rw[lead_cons,xg (by simp at hs;omega)]
 |k+1,[],h,_,_=>by simp at h
 |k+1,b::r,h,hj,hs=>by
  rw[lead_cons,xh (by have:=hj 0 (by omega);simpa using this)];have:=Bn k r (by simpa using h) (λj a=>by have:=hj (j+1) (by omega);simpa using this) (by simpa using hs);omega
def Vh(b:UInt8)(n:Nat)(h:n=b.toNat):UInt8.ofNat n=b:=by
 subst h;exact UInt8.ofNat_toNat
def num_val(b:UInt8)(k:b.toNat<128):∀l:List UInt8,(∀c∈l,128<=c.toNat)->((num (val (l++[b]))=l++[b])↔¬(0<l.length/\b=0))
 |[],_=>by
  simp only[xbA,val];rw[num_lt (by omega)];simp;exact Vh b _ (by omega)
 |c::r,h=>by
  have s:=h c (by simp);have m:c.toNat<256:=YF c;have p:=num_val b k r (λx n=>h x (by simp[n]));simp only[Yb,val];by_cases g:val (r++[b])=0
  · -- all noughts: then r is empty and b is 0
   have e:b=0:=by
    rw[val_snoc]at g;have a:b.toNat%128*128^r.length=0:=by omega
    have d:0<128^r.length:=Nat.pow_pos (by omega);have q:b.toNat%128=0:=by
     rcases Nat.mul_eq_zero.1 a with h|h
     ·exact h
     omega
    apply Yk.1
    show b.toNat=0;omega
   rw[g,num_lt (by omega)];simp[e]
  have f:¬(c.toNat%128+128*val (r++[b])<128):=by omega
  rw[num_ge f];have i:(c.toNat%128+128*val (r++[b]))%128+128=c.toNat:=by omega
  have j:(c.toNat%128+128*val (r++[b])) / 128=val (r++[b]):=by omega
  rw[i,j,UInt8.ofNat_toNat];simp only[List.cons.injEq,true_and,List.length_cons];rw[p];constructor
  ·intro a d;apply a;refine⟨?_,d.2⟩
   cases r with
   |nil=>exfalso;apply g;simp[val,d.2]
   |cons=>simp
  intro a d;exact a ⟨by omega,d.2⟩
def take_snoc(l:List UInt8)(k:Nat)(h:k<l.length):l.take (k+1)=l.take k++[l.getD k 0]:=by
 rw[xn h];simp[xaz,h]
def val_take_lt(l:List UInt8)(k:Nat)(h:k<=9):val (l.take k)<9223372036854775808:=by
 have b:=val_lt (l.take k);have a:(l.take k).length<=9:=by rw[yu];omega
 have c:128^(l.take k).length<=128^9:=xcg (by omega) a;have d:(128:Nat)^9=9223372036854775808:=by decide
 omega
def all_lead(l:List UInt8)(k:Nat)(e:k<=l.length)(h:∀j,j<k->128<=(l.getD j 0).toNat):∀c∈l.take k,128<=c.toNat:=by
 intro c b;obtain⟨j,d,rfl⟩:=xw b;have a:j<k:=by rw[yu]at d;omega
 have:=h j a
 rw[xcz];rw[xaz,xj (by omega)]at this;simpa using this
def first_stop(l:List UInt8)(k:Nat)(n:k<9)(c:k<l.length)(h:∀j,j<k->128<=(l.getD j 0).toNat)(m:(l.getD k 0).toNat<128):(num (val (l.take (k+1)))=l.take (k+1)->fst l=val (l.take (k+1))/\snd l=k+1)/\(num (val (l.take (k+1)))≠l.take (k+1)->fst l=0/\snd l=0):=by
 have f:=Bn k l c h m;have g:=num_val (l.getD k 0) m (l.take k) (all_lead l k (by omega) h);rw[<-take_snoc l k c]at g;have a:(l.take k).length=k:=by rw[yu];omega
 have hd:l.getD k 1=l.getD k 0:=by simp[xaz,c]
 have i:ok1 l=true↔num (val (l.take (k+1)))=l.take (k+1):=by
  rw[g,a];simp[ok1,f,n,c,hd];constructor
  ·rintro(h|h) b
   ·omega
   exact h
  intro h;by_cases d:k=0
  ·exact Or.inl d
  exact Or.inr (h (by omega))
 constructor
 ·intro b;have:=i.2 b;simp[fst,snd,this,f]
 intro b;have:ok1 l=false:=by
  cases e:ok1 l
  ·rfl
  exact absurd (i.1 e) b
 simp[fst,snd,this]
def first_out(l:List UInt8)(k:Nat)(c:k<=9)(b:k<=l.length)(h:∀j,j<k->128<=(l.getD j 0).toNat)(a:k=9\/k=l.length):fst l=0/\snd l=0:=by
 have d:=Ko k l b h;have:ok1 l=false:=by
  simp only[ok1,xaF,Yv];left;rcases a with a|a
  ·left;omega
  right;omega
 simp[fst,snd,this]
def snd_le(l:List UInt8):snd l<=l.length:=by
 unfold snd;split
 ·rename_i h;simp only[ok1,yt,yr]at h;omega
 omega
def snd_le9(l:List UInt8):snd l<=9:=by
 unfold snd;split
 ·rename_i h;simp only[ok1,yt,yr]at h;omega
 omega
def fst_lt(l:List UInt8):fst l<9223372036854775808:=by
 unfold fst;split
 ·rename_i h;simp only[ok1,yt,yr]at h;exact val_take_lt l _ (by omega)
 omega
def rF:Nat->List UInt8->Option (List Nat)
 |0,_=>Y []
 |k+1,l=>if l=[] then Y [] else if snd l=0 then none else (rF k (l.drop (snd l))).map (fst l::·)
def nums(l:List UInt8):Option (List Nat):=rF l.length l
def jX:∀k,rF k []=Y []
 |0=>rfl
 |_+1=>by simp[rF]
def Fu:∀(k j:Nat) (l:List UInt8),l.length<=k->l.length<=j->rF k l=rF j l
 |0,j,l,hk,_=>by
  have h:l=[]:=yl.1 (by omega);subst h;rw[jX,jX]
 |k+1,j,l,hk,hj=>by
  by_cases h:l=[]
  ·subst h;rw[jX,jX]
  have b:0<l.length:=xaf.2 h;match j,hj with
  |0,hj=>omega
  |j+1,hj=>
   by_cases a:snd l=0
   ·simp only[rF,xg h,xh a]
   have hd:(l.drop (snd l)).length=l.length-snd l:=yw;have e:=Fu k j (l.drop (snd l)) (by omega) (by omega);simp only[rF,xg h,xg a,e]
def BF(h:l≠[]):nums l=if snd l=0 then none else (nums (l.drop (snd l))).map (fst l::·):=by
 have b:0<l.length:=xaf.2 h;have e:rF l.length l=rF (l.length-1+1) l:=by congr 1;omega
 rw[nums,e,rF,xg h];by_cases a:snd l=0
 ·rw[xh a,xh a]
 have hd:(l.drop (snd l)).length=l.length-snd l:=yw;rw[xg a,xg a,nums,Fu (l.length-1) (l.drop (snd l)).length _ (by omega) (by omega)]
def nums_nil:nums []=Y []:=rfl
def nums_none(h:l≠[])(a:snd l=0):nums l=none:=by rw[BF h,xh a]
def nums_cons(h:l≠[])(a:snd l≠0):nums l=(nums (l.drop (snd l))).map (fst l::·):=by rw[BF h,xg a]
def nums_len:∀(k:Nat) (l:List UInt8) (c:List Nat),l.length<=k->nums l=Y c->c.length<=l.length
 |k,l,c,hk,h=>by
  by_cases a:l=[]
  ·subst a;rw[nums_nil]at h;cases h;simp
  by_cases d:snd l=0
  ·rw[nums_none a d]at h;cases h
  rw[nums_cons a d]at h;have f:0<l.length:=xaf.2 a;match k with
  |0=>omega
  |k+1=>
   obtain⟨e,b,rfl⟩:=xaA.1 h;have hd:(l.drop (snd l)).length=l.length-snd l:=yw;have:=nums_len k (l.drop (snd l)) e (by omega) b;simp;omega
def nums_lt:∀(k:Nat) (l:List UInt8) (d:List Nat),l.length<=k->nums l=Y d->∀n∈d,n<9223372036854775808
 |k,l,d,hk,h=>by
  by_cases a:l=[]
  ·subst a;rw[nums_nil]at h;cases h;simp
  by_cases e:snd l=0
  ·rw[nums_none a e]at h;cases h
  rw[nums_cons a e]at h;have g:0<l.length:=xaf.2 a;match k with
  |0=>omega
  |k+1=>
   obtain⟨f,b,rfl⟩:=xaA.1 h;have hd:(l.drop (snd l)).length=l.length-snd l:=yw;have:=nums_lt k (l.drop (snd l)) f (by omega) b;intro n c;rcases xz.1 c with rfl|c
   ·exact fst_lt l
   exact this n c
def toldB(ns:List Nat):List UInt8:=(ns.map num).flatten
def Iy(a:List Nat)(n:Nat):toldB (a++[n])=toldB a++num n:=by simp[toldB]
def toldB_take(a:List Nat)(k:Nat)(h:k<a.length):toldB (a.take (k+1))=toldB (a.take k)++num (a.getD k 0):=by
 rw[xn h,Iy];simp[xaz,h]
def toldB_len:∀(a:List Nat),(∀n∈a,n<9223372036854775808)->(toldB a).length<=9*a.length
 |[],_=>by simp[toldB]
 |n::r,h=>by
  have d:=num_len n (h n (by simp));have b:=toldB_len r (λx c=>h x (by simp[c]));simp only[toldB,XY,List.flatten_cons,xc,List.length_cons]at b ⊢;omega
def kindsL:Nat->List UInt8
 |1=>[100]
 |2=>[105,105,99,100]
 |3=>[105,105,99]
 |4=>[105,105,105]
 |5=>[105,105,99,100,119]
 |6=>[105]
 |7=>[105]
 |8=>[105,105]
 |9=>[105,105]
 |10=>[105,99]
 |11=>[105]
 |12=>[105,100]
 |_=>[]
def mayB(kind:UInt8)(n:Nat):Bool :=
 if kind=105\/kind=99 then decide (1<=n)&&decide (n<=2147483647) else if kind=100 then decide (n<=2147483647) else decide (n<=3)
def mays:List UInt8->List Nat->Bool
 |k::ks,n::ns=>mayB k n&&mays ks ns
 |_,_=>true
abbrev Cmd:=Except Nat (Nat×List Nat)
def cmd(l:List UInt8):Cmd :=
 match l with
 |[]=>.error 1
 |c::r=>
  match nums r with
  |none=>.error 1
  |some ns=>if kindsL c.toNat=[]\/ns.length≠(kindsL c.toNat).length then .error 1 else if mays (kindsL c.toNat) ns then .ok (c.toNat,ns) else .error 2
def readN:Nat->List UInt8->Option (List Nat×List UInt8)
 |0,l=>Y ([],l)
 |n+1,l=>if snd l=0 then none else match readN n (l.drop (snd l)) with
  |none=>none
  |some (ns,r)=>Y (fst l::ns,r)
def readN_nums:∀(n:Nat) (l:List UInt8) (c:List Nat),readN n l=Y (c,[])↔(nums l=Y c/\c.length=n)
 |0,l,c=>by
  simp only[readN,yk,Yi,yl];constructor
  ·rintro⟨rfl,rfl⟩;exact⟨nums_nil,rfl⟩
  rintro⟨h,rfl⟩;refine⟨rfl,?_⟩;by_cases a:l=[]
  ·exact a
  by_cases b:snd l=0
  ·rw[nums_none a b]at h;cases h
  rw[nums_cons a b]at h;obtain⟨d,_,f⟩:=xaA.1 h
  cases f
 |n+1,l,c=>by
  have i:=readN_nums n (l.drop (snd l));by_cases b:snd l=0
  ·simp only[readN,b,YX];constructor
   ·intro h;cases h
   rintro⟨h,e⟩;by_cases a:l=[]
   ·subst a;rw[nums_nil]at h;cases h;simp at e
   rw[nums_none a b]at h;cases h
  have a:l≠[]:=by
   intro h;subst h;exact b (by have:=snd_le [];simpa using this)
  simp only[readN,b,xam];rw[nums_cons a b];constructor
  ·intro h
   cases g:readN n (l.drop (snd l)) with
   |none=>rw[g]at h;cases h
   |some p=>
    obtain⟨d,r⟩:=p;rw[g]at h;simp only[yk,Yi]at h;obtain⟨rfl,rfl⟩:=h;have:=(i d).1 g;rw[this.1];exact⟨rfl,by simp[this.2]⟩
  rintro⟨h,e⟩;obtain⟨d,f,rfl⟩:=xaA.1 h;rw[(i d).2 ⟨f,by simpa using e⟩]
end Pl
