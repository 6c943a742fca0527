import Derived.Test.YtgcedalggnmooabGreatDoorRefAX
import Derived.Test.YtgcedalggnmooabGreatDoorWireAX
import Derived.Test.YtgcedalggnmooabGreatDoorChkAX
import Derived.Lib.AppendStr
set_option linter.unusedSimpArgs false
set_option linter.unusedVariables false
set_option maxRecDepth 100000
namespace Go.Proofs.YtgcedalggnmooabGreatDoor
open Go.RowKit
theorem ownU {base n:Nat} {l:List UInt8} {x:Int} {w1:World} {v1:Value} (c:UInt8) (hx:x=(c.toNat:Int)) (hl:l.length=n)
  (h:w1.ownsRow base 5 1 v1 (n+1) (U8 l++[.int .u8 x])):w1.ownsRow base 5 1 v1 (l++[c]).length (U8 (l++[c])):=by
 have e:U8 (l++[c])=U8 l++[.int .u8 x]:=by simp [U8,hx]
 rw [e,List.length_append,hl];exact h
theorem i64_and_nat (a b:Nat) (ha:a<9223372036854775808) (hb:b<9223372036854775808):bits .and .i64 (a:Int) (b:Int)=((a &&& b:Nat):Int):=by
 have hx:a &&& b<2 ^ 63:=Nat.and_lt_two_pow _ (by omega)
 show IntKind.i64.wrap ((BitVec.ofInt 64 (a:Int) &&& BitVec.ofInt 64 (b:Int)).toNat:Int)=_
 rw [BitVec.toNat_and,ofInt_i64 a ha,ofInt_i64 b hb,IntWalk.i64_left,wrap64_in _ ⟨by omega,by omega⟩]
theorem byte_hi (m:Nat) (h:m<9223372036854775808):bits .or .u8 (bits .and .i64 (m:Int) 127 % 256) 128=((m % 128+128:Nat):Int):=by
 have e:=i64_and_nat m 127 h (by omega)
 rw [show ((127:Nat):Int)=127 from rfl,show (127:Nat)=2 ^ 7 - 1 from rfl,Nat.and_two_pow_sub_one_eq_mod] at e
 rw [e,show ((m % 2 ^ 7:Nat):Int) % 256=((m % 128:Nat):Int) from by omega,u8_or128_right _ (by omega) (by omega)]
 omega
set_option maxHeartbeats 800000 in
theorem append_num (B:Nat) (v:Value) (l:List UInt8) (n:Nat) (hn:n<9223372036854775808) (hl:l.length≤1000000) (w:World) (hB:B≤w.heap.size) (ho:w.ownsRow B 5 1 v l.length (U8 l)) :
  Calls Tryz.prog 37 #[v,.int .i64 (n:Int)] w fun e w'=>∃ v',e=.returned v'∧w'.ownsRow B 5 1 v' (l++Pl.num n).length (U8 (l++Pl.num n))∧Below B w w':=by
 obtain ⟨i0,hi,hz0,hz1,hz2⟩:=info_parts info5
 have hlen:=Pl.num_len n hn
 go_enter Tryz.func37,Tryz.ntmps37
 go_wp2_with fail
 go_loopw [0,1] (fun t m wr=>∃ (m':Nat) (l':List UInt8),m=.int .i64 (m':Int)∧m'≤n∧wr.ownsRow B 5 1 t l'.length (U8 l')∧Hid (l'++Pl.num m'=l++Pl.num n)∧B≤wr.heap.size∧Below B w wr) (fun _ m _=>(intOf m).toNat)
 case atStart=>exact ⟨n,l,rfl,Nat.le_refl _,ho,rfl,hB,Below.refl _ _⟩
 case round =>
  clear ho
  obtain ⟨m,l',rfl,hm,ho,HQ,hsz,hb⟩:=hrel
  have hl':l'.length≤1000009:=by
   have:=congrArg List.length HQ.out
   simp at this
   omega
  by_cases h128:m<128
  ·go_wp2_with (at_builtin;refine wpList_append_own _ rfl _ _ 51 rfl B 5 i0 (.int .u8 0) 1 1 tU52 hi hz0 hz1 hz2 rfl (by decide) _ _ _ rfl (ho.alloc _) ⟨wr.heap.size,0,none⟩ 1 1 [.int .u8 ?bb] rfl rfl ?c1 ?c2 ?c3 ?c4 ?c5 ?_)
   case c1=>exact one_new _ _ _
   case c2=>intro u hu;simp at hu;subst hu;rfl
   case c3=>unfold maxLen;omega
   case c4=>omega
   case c5=>simp;omega
   intro v' w2 hown2 hgrow hnn
   have hbb:Below B w w2:=(hb.alloc hsz _).grown hgrow (by simp;omega) (fun k hk=>(ho.lt k hk).1)
   have hob:=ownU (UInt8.ofNat m) (by rw [UInt8.toNat_ofNat'];omega) rfl hown2
   have HQ':Hid (l'++[UInt8.ofNat m]=l++Pl.num n):=by rw [← HQ.out,Pl.num_lt h128];rfl
   clear hown2 hgrow ho hnn hb HQ
   go_wp2_with fail
   go_ret
   refine ⟨_,rfl,?_,hbb⟩
   rw [← HQ'.out];exact hob
  ·go_wp2_with (at_builtin;refine wpList_append_own _ rfl _ _ 51 rfl B 5 i0 (.int .u8 0) 1 1 tU52 hi hz0 hz1 hz2 rfl (by decide) _ _ _ rfl (ho.alloc _) ⟨wr.heap.size,0,none⟩ 1 1 [.int .u8 ?b2] rfl rfl ?c1 ?c2 ?c3 ?c4 ?c5 ?_)
   case c1=>exact one_new _ _ _
   case c2=>intro u hu;simp at hu;subst hu;rfl
   case c3=>unfold maxLen;omega
   case c4=>omega
   case c5=>simp;omega
   intro v' w2 hown2 hgrow hnn
   have hbb:Below B w w2:=(hb.alloc hsz _).grown hgrow (by simp;omega) (fun k hk=>(ho.lt k hk).1)
   have hob:=ownU (UInt8.ofNat (m % 128+128)) (by rw [byte_hi m (by omega),UInt8.toNat_ofNat'];omega) rfl hown2
   have HQ':Hid ((l'++[UInt8.ofNat (m % 128+128)])++Pl.num (m / 128)=l++Pl.num n):=by rw [← HQ.out,Pl.num_ge h128];simp [Hid]
   have hsz2:B≤w2.heap.size:=by have:=hgrow.size;simp at this;omega
   clear hown2 hgrow ho hnn hb HQ
   go_wp2_with fail
   go_roundw
   case rel=>exact ⟨m / 128,_,by go_num,by omega,hob,HQ',hsz2,hbb⟩
   case measure=>simp [intOf];omega
theorem conv_row (w:World) (B g n cap:Nat) (l:List UInt8) (hl:l.length=n) (h:w.ownsRow B 5 1 (.slice (some ⟨g,0,none⟩) n cap) n (U8 l)) :
  (convert 51 9 (.slice (some ⟨g,0,none⟩) n cap)).run Tryz.prog w=.ok (.string ⟨l.toArray⟩) w:=by
 have h1:=run_convert_bytes_back (P:=Tryz.prog) w 51 9 5 ⟨g,0,none⟩ cap l tU52 tU5 tU9 (fun j hj=>by
  have ha:(Addr.add ⟨g,0,none⟩ j)=⟨g,j,none⟩:=by
   unfold Addr.add;split <;> simp_all
  rw [ha,rowU_cell h hl j (by omega)];simp [List.getD_eq_getElem?_getD,hj])
 rw [hl] at h1;exact h1
set_option maxHeartbeats 800000 in
theorem join_nil (c:Nat) (hc:c<256) (w:World) :
  Calls Tryz.prog 24 #[.int .u8 (c:Int),.slice none 0 0] w fun e w'=>e=.returned (.string ⟨[UInt8.ofNat c].toArray⟩)∧Below w.heap.size w w':=by
 have ho:(w.alloc (.cells #[.int .u8 (c:Int)] 5)).ownsRow w.heap.size 5 1 (.slice (some ⟨w.heap.size,0,none⟩) 1 1) 1 (U8 [UInt8.ofNat c]):=by
  have h:=World.ownsRow_lit (e:=5) (size:=1) w #[.int .u8 (c:Int)] 1 (Nat.le_refl _) (by unfold maxLen;simp) rfl
  have e:U8 [UInt8.ofNat c]=[Value.int .u8 (c:Int)]:=by simp [U8,Nat.mod_eq_of_lt hc]
  rw [e];exact h
 have hcv:=conv_row (w.alloc (.cells #[.int .u8 (c:Int)] 5)) w.heap.size w.heap.size 1 1 [UInt8.ofNat c] rfl ho
 clear ho
 go_enter Tryz.func24,Tryz.ntmps24
 go_wp2_with fail
 refine wp_loop_rounds 1 ?_;rw [rounds_succ]
 go_wp2_with fail
 go_ret
 exact ⟨rfl,(Below.refl _ _).alloc (Nat.le_refl _) _⟩
set_option maxHeartbeats 800000 in
theorem join_some (c:Nat) (hc:c<256) (b cap:Nat) (ns:List Nat) (hn:∀ n ∈ ns,n<9223372036854775808) (hl:ns.length≤1000) (hpos:0<ns.length) (w:World) (hbw:b<w.heap.size)
  (hcs:∀ j,j<ns.length→w.cell? ⟨b,j,none⟩=some (.int .i64 (ns.getD j 0:Nat))) :
  Calls Tryz.prog 24 #[.int .u8 (c:Int),.slice (some ⟨b,0,none⟩) ns.length cap] w fun e w'=>e=.returned (.string ⟨(UInt8.ofNat c :: Pl.toldB ns).toArray⟩)∧Below w.heap.size w w':=by
 have ho0:(w.alloc (.cells #[.int .u8 (c:Int)] 5)).ownsRow w.heap.size 5 1 (.slice (some ⟨w.heap.size,0,none⟩) 1 1) 1 (U8 [UInt8.ofNat c]):=by
  have h:=World.ownsRow_lit (e:=5) (size:=1) w #[.int .u8 (c:Int)] 1 (Nat.le_refl _) (by unfold maxLen;simp) rfl
  have e:U8 [UInt8.ofNat c]=[Value.int .u8 (c:Int)]:=by simp [U8,Nat.mod_eq_of_lt hc]
  rw [e];exact h
 have HO0:=hide ho0
 clear ho0
 generalize UInt8.ofNat c=u at *
 go_enter Tryz.func24,Tryz.ntmps24
 go_wp2_with fail
 go_loopw [5,7,12] (fun t _ i wr=>∃ k:Nat,k≤ns.length∧i=.int .i64 k∧wr.ownsRow w.heap.size 5 1 t (u :: Pl.toldB (ns.take k)).length (U8 (u :: Pl.toldB (ns.take k)))∧w.heap.size≤wr.heap.size∧Below w.heap.size w wr) (fun _ _ i _=>ns.length - (intOf i).toNat)
 case atStart=>exact ⟨0,by omega,rfl,HO0.out,by simp,(Below.refl _ _).alloc (Nat.le_refl _) _⟩
 case round =>
  clear HO0
  obtain ⟨k,hk,rfl,ho,hsz,hb⟩:=hrel
  by_cases hlt:k<ns.length
  ·obtain ⟨n,hn0⟩:∃ n,n=ns.getD k 0:=⟨_,rfl⟩
   have hcx:wr.cell? ⟨b,k,none⟩=some (.int .i64 (n:Int)):=(hb.cell (by exact hbw)).trans (by rw [hn0];exact hcs k hlt)
   have hnl:n<9223372036854775808:=by rw [hn0];exact hn _ (by simp [List.getD_eq_getElem?_getD,hlt])
   have htl:(u :: Pl.toldB (ns.take k)).length≤1000000:=by
    have:=Pl.toldB_len (ns.take k) (fun x hx=>hn x (List.mem_of_mem_take hx))
    have h2:(ns.take k).length≤k:=List.length_take_le _ _
    simp;omega
   have HT:Hid (u :: Pl.toldB (ns.take (k+1))=(u :: Pl.toldB (ns.take k))++Pl.num n):=by rw [Pl.toldB_take ns k hlt,← hn0];rfl
   have H1:=hide (append_num w.heap.size _ _ n hnl htl wr hsz ho)
   rw [← HT.out] at H1
   clear hn0 hcs hn ho
   go_wp2_with (go_at_call 37;refine (H1.out).mono ?_;rintro e w1 ⟨v',rfl,ho1,hb1⟩)
   go_roundw
   case rel=>exact ⟨k+1,by omega,by go_num,ho1,Nat.le_trans hsz hb1.size,hb.trans hb1⟩
   case measure=>simp [intOf];omega
  ·have hkk:ns.take k=ns:=List.take_of_length_le (by omega)
   rw [hkk,List.length_cons] at ho
   obtain ⟨g,cap',hv,hg,hgw⟩:=own_some ho (by simp)
   rw [hv] at ho
   rw [hv]
   have hcv:=conv_row wr _ g _ cap' _ (by simp) ho
   clear ho hv hkk
   go_wp2_with fail
   go_ret
   exact ⟨rfl,hb⟩
def Nums (w:World) (v:Value) (ns:List Nat):Prop :=
 (v=.slice none 0 0∧ns=[])∨∃ b cap,v=.slice (some ⟨b,0,none⟩) ns.length cap∧b<w.heap.size∧0<ns.length∧ns.length≤1000∧(∀ n ∈ ns,n<9223372036854775808)∧∀ j,j<ns.length→w.cell? ⟨b,j,none⟩=some (.int .i64 (ns.getD j 0:Nat))
theorem Nums.nil (w:World):Nums w (.slice none 0 0) []:=Or.inl ⟨rfl,rfl⟩
theorem join_any {w:World} {v:Value} {ns:List Nat} (h:Nums w v ns) (c:Nat) (hc:c<256) :
  Calls Tryz.prog 24 #[.int .u8 (c:Int),v] w fun e w'=>e=.returned (.string ⟨(UInt8.ofNat c :: Pl.toldB ns).toArray⟩)∧Below w.heap.size w w':=by
 rcases h with ⟨rfl,rfl⟩ | ⟨b,cap,rfl,h2,h3,h4,h5,h6⟩
 ·exact join_nil c hc w
 ·exact join_some c hc b cap ns h5 h4 h3 w h2 h6
end Go.Proofs.YtgcedalggnmooabGreatDoor
namespace Go.Proofs.YtgcedalggnmooabGreatDoor
open Go.RowKit
theorem ofInt_u32 (a:Nat) (ha:a<4294967296):(BitVec.ofInt 32 (a:Int)).toNat=a:=by
 simp [BitVec.toNat_ofInt];omega
theorem u32_xor_nat (a b:Nat) (ha:a<4294967296) (hb:b<4294967296):bits .xor .u32 (a:Int) (b:Int)=((a ^^^ b:Nat):Int):=by
 have hx:a ^^^ b<2 ^ 32:=Nat.xor_lt_two_pow (by omega) (by omega)
 show IntKind.u32.wrap ((BitVec.ofInt 32 (a:Int) ^^^ BitVec.ofInt 32 (b:Int)).toNat:Int)=_
 rw [BitVec.toNat_xor,ofInt_u32 a ha,ofInt_u32 b hb]
 simp [IntKind.wrap,IntKind.bits,IntKind.signed]
 omega
theorem crcS_lt {v:Nat} (h:v<4294967296):crcS v<4294967296:=by
 unfold crcS
 have h2:v * 2 % 4294967296<2 ^ 32:=Nat.mod_lt _ (by omega)
 split
 ·exact Nat.xor_lt_two_pow h2 (by omega)
 ·exact h2
theorem top_bit {v:Nat} (h:v<4294967296):v.testBit 31=(v / 2147483648 == 1):=by
 rw [Nat.testBit_eq_decide_div_mod_eq]
 have:v / 2 ^ 31<2:=by omega
 rw [show (2147483648:Nat)=2 ^ 31 from rfl]
 by_cases hv:v / 2 ^ 31=1
 ·simp [hv]
 ·have:v / 2 ^ 31=0:=by omega
  simp [this]
set_option maxHeartbeats 800000 in
theorem fstep_any (v:Nat) (hv:v<4294967296) (w:World) :
  Calls Tryz.prog 64 #[.int .u32 (v:Int)] w fun e w'=>e=.returned (.int .u32 (crcS v:Int))∧w'=w:=by
 have hx:=u32_xor_nat (v * 2 % 4294967296) 517762881 (Nat.mod_lt _ (by omega)) (by omega)
 have ht:=top_bit hv
 have hI:((v:Int) / 2147483648 == 1)=(v / 2147483648 == 1):=by
  by_cases h:v / 2147483648=1
  ·have:(v:Int) / 2147483648=1:=by omega
   simp [h,this]
  ·have:¬ (v:Int) / 2147483648=1:=by omega
   rw [beq_eq_false_iff_ne.2 this,beq_eq_false_iff_ne.2 h]
 go_enter Tryz.func64,Tryz.ntmps64
 go_wp2_with fail
 all_goals
  rename_i hc
  rw [← ht] at hc
  go_ret
  refine ⟨?_,rfl⟩
  unfold crcS
 ·rw [if_pos hc,← hx];simp
 ·rw [if_neg (by rw [hc];simp)];simp
theorem crcK_lt {v:Nat} (h:v<4294967296):∀ j,crcK v j<4294967296
 | 0=>h
 | j+1=>crcS_lt (crcK_lt h j)
theorem crcB_lt {v:Nat} (h:v<4294967296) (b:UInt8):crcB v b<4294967296:=crcK_lt (show v ^^^ (b.toNat * 16777216)<2 ^ 32 from Nat.xor_lt_two_pow h (by have:=b.toNat_lt;omega)) 8
theorem crcP_lt:∀ (l:List UInt8) (v:Nat),v<4294967296→l.foldl crcB v<4294967296
 | [],_,h=>h
 | b :: l,_,h=>crcP_lt l _ (crcB_lt h b)
theorem crcF_take {l:List UInt8} {k:Nat} (hk:k<l.length):crcF (l.take (k+1))=crcB (crcF (l.take k)) (l.getD k 0):=by
 unfold crcF
 rw [List.take_succ_eq_append_getElem hk,List.foldl_append]
 simp [List.getD_eq_getElem?_getD,hk]
set_option maxHeartbeats 1600000 in
theorem fcheck_any (s:ByteArray) (hs:s.size≤70368744177664) (w:World) :
  Calls Tryz.prog 41 #[.string s] w fun e w'=>e=.returned (.string ⟨(chkB s.data.toList).toArray⟩)∧Below w.heap.size w w':=by
 obtain ⟨l,HL⟩:∃ l,Hid (l=s.data.toList):=⟨_,rfl⟩
 have hlen:s.size=l.length:=by rw [HL.out];simp
 rw [← HL.out,chkB_crc]
 go_enter Tryz.func41,Tryz.ntmps41
 go_wp2_with fail
 go_loopw [3,4,7] (fun v _ ii wr=>w=wr∧∃ k:Nat,k≤l.length∧ii=.int .i64 k∧v=.int .u32 (crcF (l.take k):Int)) (fun _ _ ii _=>l.length - (intOf ii).toNat)
 case atStart=>exact ⟨rfl,0,by omega,rfl,rfl⟩
 case round =>
  obtain ⟨rfl,k,hk,rfl,rfl⟩:=hrel
  by_cases hlt:k<l.length
  ·obtain ⟨b,HB⟩:∃ b:UInt8,Hid (b=l.getD k 0):=⟨_,rfl⟩
   have HT:=hide (crcF_take hlt)
   rw [← HB.out] at HT
   have hv:crcF (l.take k)<4294967296:=crcP_lt _ _ (by omega)
   obtain ⟨v,HV⟩:∃ v,Hid (v=crcF (l.take k)):=⟨_,rfl⟩
   rw [← HV.out] at hv HT
   rw [← HV.out]
   have hkb:k<s.size:=by omega
   have hbyte:s[k].toNat=b.toNat:=by
    rw [HB.out,HL.out]
    simp [List.getD_eq_getElem?_getD,ByteArray.getElem_eq_getElem_data,hkb]
   have hb8:=b.toNat_lt
   have hx:bits .xor .u32 (v:Int) ((b.toNat:Int) * 16777216)=((v ^^^ (b.toNat * 16777216):Nat):Int):=by
    have:=u32_xor_nat v (b.toNat * 16777216) hv (by omega)
    simpa using this
   have HX0:Hid (v ^^^ (b.toNat * 16777216)<4294967296):=show _<2 ^ 32 from Nat.xor_lt_two_pow hv (by omega)
   have HCB:Hid (crcB v b=crcK (v ^^^ (b.toNat * 16777216)) 8):=rfl
   generalize v ^^^ (b.toNat * 16777216)=x at hx HX0 HCB
   go_wp2_with fail
   go_loopw [3,17] (fun u jj wr=>w=wr∧∃ j:Nat,j≤8∧jj=.int .i64 j∧u=.int .u32 (crcK x j:Int)) (fun _ jj _=>8 - (intOf jj).toNat)
   case atStart=>exact ⟨rfl,0,by omega,rfl,rfl⟩
   case round =>
    obtain ⟨rfl,j,hj,rfl,rfl⟩:=hrel
    have hc:=crcK_lt HX0.out j
    have HS:=hide (fun w=>fstep_any (crcK x j) hc w)
    have HE:Hid (crcS (crcK x j)=crcK x (j+1)):=rfl
    rw [HE.out] at HS
    obtain ⟨y,HY⟩:∃ y,Hid (y=crcK x j):=⟨_,rfl⟩
    rw [← HY.out] at hc HS
    rw [← HY.out]
    by_cases h8:j<8
    ·go_wp2_with (go_at_call 64;refine (HS.out _).mono ?_;rintro e w1 ⟨rfl,rfl⟩)
     go_roundw
     case rel=>exact ⟨trivial,j+1,by omega,by go_num,rfl⟩
     case measure=>simp [intOf];omega
    ·obtain rfl:j=8:=by omega
     have HN:Hid (y=crcF (l.take (k+1))):=by unfold Hid;rw [HT.out,HCB.out];exact HY.out
     go_wp2_with fail
     go_roundw
     case rel=>exact ⟨trivial,k+1,by omega,by go_num,by rw [HN.out]⟩
     case measure=>simp [intOf];omega
  ·obtain rfl:k=l.length:=by omega
   have hv:crcF (l.take l.length)<4294967296:=crcP_lt _ _ (by omega)
   rw [List.take_length] at *
   have hm:bits .xor .u32 IntKind.u32.max ((crcF l:Nat):Int)=((crcF l ^^^ 4294967295:Nat):Int):=by
    have:=u32_xor_nat 4294967295 (crcF l) (by omega) hv
    rw [Nat.xor_comm] at this
    exact this
   have hy:crcF l ^^^ 4294967295<4294967296:=show _<2 ^ 32 from Nat.xor_lt_two_pow hv (by omega)
   obtain ⟨y,HYY⟩:∃ y,Hid (y=crcF l ^^^ 4294967295):=⟨_,rfl⟩
   rw [← HYY.out] at hm hy
   have ho:(w.alloc (.cells #[.int .u8 ((y:Int) / 16777216 % 256),.int .u8 ((y:Int) / 65536 % 256),.int .u8 ((y:Int) / 256 % 256),.int .u8 ((y:Int) % 256)] 5)).ownsRow w.heap.size 5 1 (.slice (some ⟨w.heap.size,0,none⟩) 4 4) 4 (U8 (beB y)):=by
    have h:=World.ownsRow_lit (e:=5) (size:=1) w #[.int .u8 ((y:Int) / 16777216 % 256),.int .u8 ((y:Int) / 65536 % 256),.int .u8 ((y:Int) / 256 % 256),.int .u8 ((y:Int) % 256)] 4 (Nat.le_refl _) (by unfold maxLen;simp) rfl
    have e:U8 (beB y)=[Value.int .u8 ((y:Int) / 16777216 % 256),.int .u8 ((y:Int) / 65536 % 256),.int .u8 ((y:Int) / 256 % 256),.int .u8 ((y:Int) % 256)]:=by simp [U8,beB]
    rw [e];exact h
   have hcv:=conv_row _ w.heap.size w.heap.size 4 4 (beB y) rfl ho
   clear ho
   go_wp2_with fail
   go_ret
   exact ⟨by rw [← HYY.out];rfl,(Below.refl _ _).alloc (Nat.le_refl _) _⟩
theorem strU (s:ByteArray):Lib.strCells s=U8 s.data.toList:=rfl
def Lies (w:World) (v v':Value):Prop:=∀ k,v'.ownBlock=some k→v.ownBlock=some k∨w.heap.size≤k
theorem run_append_str_at {P:Program} (w:World) (base:Nat) (t u ty e:TypeId) (i:TypeInfo) (ht:P.underlying t=some (.slice e)) (hu:P.underlying u=some .string) (hi:P.info? e=some i) (hz:i.zero=some (.int .u8 0))
  (hsize:i.size=1) (hby:i.bytes=1) (v:Value) (n:Nat) (xs:List Value) (hown:w.ownsRow base e 1 v n xs) (s:ByteArray)
  (h63:n+s.size≤maxLen) (hbytes:n+s.size≤140737488355328) (hbase:base≤w.heap.size) :
  ∃ v' w',(Builtin.append_ #[t,u] ty #[v,.string s]).run P w=.ok v' w'∧w'.ownsRow base e 1 v' (n+s.size) (xs++Lib.strCells s)∧w.grownBy w' v.ownBlock∧Lies w v v':=by
 obtain ⟨v',w',hr,h2,h3,h4⟩:=Lib.run_append_own_string (P:=P) w base t u ty e i ht hu hi hz hsize hby v n xs hown s h63 hbytes hbase
 refine ⟨v',w',hr,h2,h3,?_⟩
 have hsmall:n+s.size≤9223372036854775807:=by simp only [maxLen] at h63;omega
 have hxl:xs.length=n:=by simpa using hown.1
 rcases hown.2 with ⟨rfl,rfl⟩ | ⟨g,cap,cur,rfl,hbg,hg,hnc,hcm,hcs,htake⟩
 ·have hx:xs=[]:=List.eq_nil_of_length_eq_zero hxl
  subst hx
  obtain ⟨v'',w'',hr',h2',_,_⟩:=Lib.run_append_own_string (P:=P) w w.heap.size t u ty e i ht hu hi hz hsize hby (.slice none 0 0) 0 [] (World.ownsRow_nil _ _ _ _) s h63 hbytes (Nat.le_refl _)
  rw [hr] at hr'
  cases hr'
  intro k hk
  exact Or.inr (h2'.lt k hk).1
 ·by_cases hroom:n+s.size≤cap
  ·have hcs':cur.size=cap:=by simpa using hcs
   have hr':=Lib.run_append_room_string (P:=P) w t u ty e i ht hu hi hsize g n cap cur hg s hroom (by omega)
   rw [hr] at hr'
   cases hr'
   intro k hk
   exact Or.inl hk
  ·have holds:∀ j u,xs[j]?=some u→w.cell? ((⟨g,0,none⟩:Addr).add j)=some u:=hown.cells (g:=g) rfl
   have hr':=Lib.run_append_grow_string (P:=P) w t u ty e i (.int .u8 0) ht hu hi hz ⟨g,0,none⟩ n cap xs (by rw [hsize];simpa using hxl) holds s (by omega) (by omega) (by rw [hby];exact growslice_fits (by omega) (by omega))
   rw [hr] at hr'
   cases hr'
   intro k hk
   cases hk
   exact Or.inr (Nat.le_refl _)
theorem wpList_append_str_at {P:Program} (w:World) {ops:Array Oper} {rest:List Oper} {o:Oper} {a:Act} {Q:Exit→Act→World→Prop} (hgd:o.guard=none) (sl x:Operand) (t u:TypeId)
  (ho:o.op=.call { callee:=.builtin .append,args:=#[sl,x],argTypes:=#[t,u] })
  (base:Nat) (e:TypeId) (i:TypeInfo) (ht:P.underlying t=some (.slice e)) (hu:P.underlying u=some .string) (hi:P.info? e=some i) (hz:i.zero=some (.int .u8 0))
  (hsize:i.size=1) (hby:i.bytes=1)
  (v:Value) (n:Nat) (xs:List Value) (hs:a.eval sl=v) (hown:w.ownsRow base e 1 v n xs) (s:ByteArray) (hx:a.eval x=.string s)
  (h63:n+s.size≤maxLen) (hbytes:n+s.size≤140737488355328) (hbase:base≤w.heap.size)
  (h:∀ v' w',w'.ownsRow base e 1 v' (n+s.size) (xs++Lib.strCells s)→w.grownBy w' v.ownBlock→Lies w v v'→wpList P ops Q rest (a.put o.dst v') w'):wpList P ops Q (o :: rest) a w:=by
 refine wpList_plain hgd fun K hK=>?_
 obtain ⟨v',w',hr,h2,h3,h4⟩:=run_append_str_at (P:=P) w base t u o.type e i ht hu hi hz hsize hby v n xs hown s h63 hbytes hbase
 unfold Oper.wp execOp
 simp only [ho,resolve,invoke,builtin,Sem.run_bind,Sem.run_pure,Result.andThen_ok,List.map_toArray,List.map_cons,List.map_nil,hs,hx,hr]
 exact hK _ _ (h v' w' h2 h3 h4)
theorem Lies.trans {w w1 w2:World} {v v1 v2:Value} (h:Lies w1 v v1) (k:Lies w2 v1 v2) (hs:w.heap.size≤w1.heap.size) (hs2:w1.heap.size≤w2.heap.size):Lies w v v2:=fun q hq=>by
 rcases k q hq with h1 | h1
 ·rcases h q h1 with h2 | h2
  ·exact Or.inl h2
  ·exact Or.inr (by omega)
 ·exact Or.inr (by omega)
theorem grown_lies {w w1 w2 w3 w4:World} {v v2:Value} (hb:Below w.heap.size w w1) (hg:w1.grownBy w2 v.ownBlock) (hl:Lies w1 v v2) (hb3:Below w2.heap.size w2 w3) (hg4:w3.grownBy w4 v2.ownBlock):w.grownBy w4 v.ownBlock:=by
 have s1:=hb.size
 have s2:=hg.size
 have s3:=hb3.size
 have s4:=hg4.size
 refine ⟨hg4.os.trans (hb3.os.trans (hg.os.trans hb.os)),hg4.tape.trans (hb3.tape.trans (hg.tape.trans hb.tape)),hg4.output.trans (hb3.output.trans (hg.output.trans hb.output)),by omega,fun k hk hne=>?_⟩
 have q1:=hb.block k hk
 have q2:=hg.block k (by omega) hne
 have q3:=hb3.block k (by omega)
 have q4:=hg4.block k (by omega) (fun e=>by
  rcases hl k e.symm with h | h
  ·exact hne h.symm
  ·omega)
 exact q4.trans (q3.trans (q2.trans q1))
set_option maxHeartbeats 1600000 in
theorem fappend_any (B:Nat) (v:Value) (l:List UInt8) (c:ByteArray) (hc:c.size≤4000000) (hl:l.length≤35184372088832) (w:World) (hB:B≤w.heap.size) (ho:w.ownsRow B 5 1 v l.length (U8 l)) :
  Calls Tryz.prog 30 #[v,.string c] w fun e w'=>∃ v',e=.returned v'∧w'.ownsRow B 5 1 v' (l++frmB c.data.toList).length (U8 (l++frmB c.data.toList))∧w.grownBy w' v.ownBlock∧Lies w v v':=by
 obtain ⟨i0,hi,hz0,hz1,hz2⟩:=info_parts info5
 have HN:=hide (append_num w.heap.size (.slice none 0 0) [] c.size (by omega) (by simp) w (Nat.le_refl _) (World.ownsRow_nil _ _ _ _))
 have hlen:=Pl.num_len c.size (by omega)
 have hnpos:0<(Pl.num c.size).length:=Pl.num_len_pos c.size
 have HFR:Hid (frmB c.data.toList=(Pl.num c.size++c.data.toList)++chkB (Pl.num c.size++c.data.toList)):=by unfold Hid frmB;simp
 go_enter Tryz.func30,Tryz.ntmps30
 go_wp2_with (go_at_call 37;refine (HN.out).mono ?_;rintro e w1 ⟨v1,rfl,ho1,hb1⟩)
 rw [List.nil_append] at ho1
 obtain ⟨g,cap',hv,hg,hgw⟩:=own_some ho1 hnpos
 rw [hv] at ho1
 rw [hv]
 have hcv:=conv_row w1 _ g _ cap' _ rfl ho1
 have hoA:=own_below ho hb1
 have HB1:=hide hb1
 have hs1:=hb1.size
 clear ho1 hv hg hgw ho hb1
 have HCD:Hid (((⟨(Pl.num c.size).toArray⟩:ByteArray)++c).data.toList=Pl.num c.size++c.data.toList):=by unfold Hid;simp
 have hcl:c.data.toList.length=c.size:=by rw [Array.length_toList];rfl
 have HCZ:Hid (((⟨(Pl.num c.size).toArray⟩:ByteArray)++c).size=(Pl.num c.size).length+c.size):=by
  have h1:((⟨(Pl.num c.size).toArray⟩:ByteArray)++c).size=((⟨(Pl.num c.size).toArray⟩:ByteArray)++c).data.toList.length:=by rw [Array.length_toList];rfl
  unfold Hid;rw [h1,HCD.out,List.length_append,hcl]
 have HCK:=hide (fun w=>fcheck_any ((⟨(Pl.num c.size).toArray⟩:ByteArray)++c) (by rw [HCZ.out];omega) w)
 rw [HCD.out] at HCK
 have HCL:Hid ((chkB (Pl.num c.size++c.data.toList)).length=4):=chkB_len _
 obtain ⟨k4,HK4⟩:∃ k4,Hid (k4=chkB (Pl.num c.size++c.data.toList)):=⟨_,rfl⟩
 rw [← HK4.out] at HCK HCL HFR
 rw [hcv]
 clear hcv
 go_wp2_with (at_builtin;refine wpList_append_str_at _ rfl _ _ 51 9 rfl B 5 i0 tU52 tU9 hi hz0 hz1 hz2 v l.length (U8 l) rfl hoA ((⟨(Pl.num c.size).toArray⟩:ByteArray)++c) rfl ?c3 ?c4 ?c5 ?_)
 case c3=>rw [HCZ.out];unfold maxLen;omega
 case c4=>rw [HCZ.out];omega
 case c5=>omega
 intro v2 w2 ho2 hg2 hn2
 have HO2:Hid (w2.ownsRow B 5 1 v2 (l++(Pl.num c.size++c.data.toList)).length (U8 (l++(Pl.num c.size++c.data.toList)))):=by
  rw [strU,HCD.out] at ho2
  unfold Hid;rw [List.length_append,List.length_append,hcl]
  have e:U8 (l++(Pl.num c.size++c.data.toList))=U8 l++U8 (Pl.num c.size++c.data.toList):=by simp [U8]
  rw [e];exact ho2
 have HG2:=hide hg2
 have HL2:=hide hn2
 have hs2:w1.heap.size≤w2.heap.size:=hg2.size
 clear ho2 hg2 hn2 hoA
 have hll:(l++(Pl.num c.size++c.data.toList)).length=l.length+((Pl.num c.size).length+c.size):=by rw [List.length_append,List.length_append,hcl]
 go_wp2_with (first
  | (go_at_call 41;refine (HCK.out _).mono ?_;rintro e w3 ⟨rfl,hb3⟩)
  | (at_builtin;refine wpList_append_str_at _ rfl _ _ 51 9 rfl B 5 i0 tU52 tU9 hi hz0 hz1 hz2 v2 (l++(Pl.num c.size++c.data.toList)).length (U8 (l++(Pl.num c.size++c.data.toList))) rfl (own_below HO2.out hb3) ⟨k4.toArray⟩ rfl ?c3 ?c4 ?c5 ?_))
 case c3=>rw [hll];show _+k4.toArray.size≤_;rw [List.size_toArray,HCL.out];unfold maxLen;omega
 case c4=>rw [hll];show _+k4.toArray.size≤_;rw [List.size_toArray,HCL.out];omega
 case c5=>have:=hb3.size;omega
 intro v4 w4 ho4 hg4 hn4
 have HO4:Hid (w4.ownsRow B 5 1 v4 (l++frmB c.data.toList).length (U8 (l++frmB c.data.toList))):=by
  unfold Hid
  rw [HFR.out,← List.append_assoc l,List.length_append,hll]
  have e:U8 (l++(Pl.num c.size++c.data.toList)++k4)=U8 (l++(Pl.num c.size++c.data.toList))++U8 k4:=by simp [U8]
  rw [e]
  have:=ho4
  rw [strU] at this
  exact this
 have HG4:Hid (w.grownBy w4 v.ownBlock):=grown_lies HB1.out HG2.out HL2.out hb3 hg4
 have HL4:Hid (Lies w v v4):=HL2.out.trans hn4 hs1 (Nat.le_trans hs2 hb3.size)
 clear ho4 hg4 hn4 hb3
 go_wp2_with fail
 go_ret
 exact ⟨v4,rfl,HO4.out,HG4.out,HL4.out⟩
end Go.Proofs.YtgcedalggnmooabGreatDoor
