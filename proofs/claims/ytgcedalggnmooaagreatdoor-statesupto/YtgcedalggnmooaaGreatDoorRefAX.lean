import Derived.Test.YtgcedalggnmooaaGreatDoorProg
import Derived.Test.YtgcedalggnmooaaGreatDoorPlain
import Derived.WalkKit
import Derived.WalkSpells
import Derived.WalkLawsBesides
import Derived.Deep.QuietTactic
import Derived.BigQuiet
set_option linter.unusedSimpArgs false
set_option linter.unusedVariables false
set_option maxRecDepth 100000
namespace Go.Proofs.YtgcedalggnmooaaGreatDoor
open Go.RowKit
theorem hide {p:Prop} (h:p):Hid p:=h
theorem own_below {w w1:World} {base:Nat} {e:TypeId} {size n:Nat} {v:Value} {xs:List Value} (h:w.ownsRow base e size v n xs) (hb:Below w.heap.size w w1):w1.ownsRow base e size v n xs :=
 h.kept (row:=none) ⟨hb.os,hb.tape,hb.output,hb.size,fun k hk _=>hb.block k hk⟩ (by cases v.ownBlock <;> simp)
theorem one_new (w1:World) (x:Value) (t:TypeId):∀ (j:Nat) (u:Value),[x][j]?=some u→(w1.alloc (.cells #[x] t)).cell? (Addr.add ⟨w1.heap.size,0,none⟩ j)=some u:=by
 intro j u hj
 match j,hj with
 | 0,hj =>
  simp at hj;subst hj
  have ha:(Addr.add ⟨w1.heap.size,0,none⟩ 0)=⟨w1.heap.size,0,none⟩:=by simp [Addr.add]
  rw [ha,World.cell?_alloc_mark];rfl
theorem tU5:Tryz.prog.underlying 5=some (.int .u8):=by kernel_rfl
theorem tU9:Tryz.prog.underlying 9=some .string:=by kernel_rfl
theorem tU52:Tryz.prog.underlying 89=some (.slice 5):=by kernel_rfl
theorem ret_str {a b:List UInt8} (h:a=b):Ending.returned (.string ⟨a.toArray⟩)=.returned (.string ⟨b.toArray⟩):=by rw [h]
theorem conv1 (w0:World) (x:Int) (h0:0≤x) (h1:x<256) (fz:Nat × Nat) :
  (convert 89 9 (.slice (some ⟨w0.heap.size,0,none⟩) 1 1)).run Tryz.prog (w0.alloc (.cells #[.int .u8 x] 5 fz))=.ok (.string ⟨#[UInt8.ofNat x.toNat]⟩) (w0.alloc (.cells #[.int .u8 x] 5 fz)):=by
 have hu:((UInt8.ofNat x.toNat).toNat:Int)=x:=by
  rw [UInt8.toNat_ofNat'];omega
 refine run_convert_bytes_back (P:=Tryz.prog) (w0.alloc (.cells #[.int .u8 x] 5 fz)) 89 9 5 ⟨w0.heap.size,0,none⟩ 1 [UInt8.ofNat x.toNat] tU52 tU5 tU9 ?_
 intro j hj
 have:j=0:=by simpa using hj
 subst this
 have ha:(Addr.add ⟨w0.heap.size,0,none⟩ 0)=⟨w0.heap.size,0,none⟩:=by simp [Addr.add]
 rw [ha,World.cell?_alloc_mark,List.getElem_cons_zero,hu];rfl
set_option maxHeartbeats 400000 in
theorem number_small (n:Int) (h0:0≤n) (h1:n<128) (w:World) :
  Calls Tryz.prog 76 #[.int .i64 n] w fun e w'=>e=.returned (.string ⟨(Pl.num n.toNat).toArray⟩)∧Below w.heap.size w w':=by
 have hcv:=conv1 w n h0 (by omega) (0,0)
 go_enter Tryz.func76,Tryz.ntmps76
 go_wp2
 go_ret
 refine ⟨?_,?_⟩
 ·exact ret_str (by rw [Pl.num_lt (by omega)])
 ·exact (Below.refl _ _).alloc (Nat.le_refl _) _
theorem number_any:∀ (k:Nat) (n:Int),n.toNat≤k→0≤n→n≤9223372036854775807→∀ (w:World),
  Calls Tryz.prog 76 #[.int .i64 n] w fun e w'=>e=.returned (.string ⟨(Pl.num n.toNat).toArray⟩)∧Below w.heap.size w w':=by
 intro k
 induction k with
 | zero=>intro n hk h0 hm w;exact number_small n h0 (by omega) w
 | succ k ih =>
  intro n hk h0 hm w
  by_cases h1:n<128
  ·exact number_small n h0 h1 w
  ·have H:=ih (n / 128) (by omega) (by omega) (by omega)
   have HH:Hid (∀ (w:World),Calls Tryz.prog 76 #[.int .i64 (n / 128)] w fun e w'=>e=.returned (.string ⟨(Pl.num (n / 128).toNat).toArray⟩)∧Below w.heap.size w w'):=H
   clear ih H
   have hl:=Pl.num_len (n / 128).toNat (by omega)
   go_enter Tryz.func76,Tryz.ntmps76
   go_wp2_with (go_at_call 76;refine (HH.out _).mono ?_;rintro e w1 ⟨rfl,hb⟩;have hcv:=conv1 w1 (n % 128+128) (by omega) (by omega) (0,0))
   go_ret
   refine ⟨?_,?_⟩
   ·have e1:(n % 128+128).toNat=n.toNat % 128+128:=by omega
    have e2:(n / 128).toNat=n.toNat / 128:=by omega
    rw [Pl.num_ge (n:=n.toNat) (by omega),← e1,← e2]
    exact congrArg (fun b=>Ending.returned (.string b)) (ByteArray.mk_append_mk [UInt8.ofNat (n % 128+128).toNat] (Pl.num (n / 128).toNat))
   ·exact hb.alloc hb.size _
end Go.Proofs.YtgcedalggnmooaaGreatDoor
namespace Go.Proofs.YtgcedalggnmooaaGreatDoor
open Go.RowKit
theorem wrap64_in (n:Int) (h:-9223372036854775808≤n∧n≤9223372036854775807):wrap64 n=n:=by unfold wrap64;omega
theorem ret_ints {a b c d:Int} (h1:a=c) (h2:b=d):Ending.returned (.tuple #[.int .i64 a,.int .i64 b])=.returned (.tuple #[.int .i64 c,.int .i64 d]):=by rw [h1,h2]
theorem ba_getD (s:ByteArray) (k:Nat) (h:k<s.size):s.data.toList.getD k 0=s[k]:=by
 have h':k<s.data.toList.length:=by simpa using h
 rw [List.getD_eq_getElem?_getD,List.getElem?_eq_getElem h']
 rfl
theorem extract_take (s:ByteArray) (n:Nat):(s.extract 0 n).toList=s.data.toList.take n:=by
 rw [ByteArray.toList_eq,ByteArray.data_extract]
 simp
theorem step_eq (s:ByteArray) (k:Nat) (h:k<s.size) (h9:k<9) :
  wrap64 (↑(Pl.val (List.take k s.data.toList))+wrap64 ((wrap64 ↑s[k].toNat).tmod 128 * 2 ^ (7 * k)))=(Pl.val (s.data.toList.take (k+1)):Int):=by
 have hb:s[k].toNat<256:=UInt8.toNat_lt _
 rw [wrap64_in (s[k].toNat:Int) ⟨by omega,by omega⟩]
 have e1:(s[k].toNat:Int).tmod 128=((s[k].toNat % 128:Nat):Int):=by
  rw [Int.tmod_eq_emod_of_nonneg (by omega)];omega
 have e2:(2:Int) ^ (7 * k)=((128 ^ k:Nat):Int):=by
  rw [Int.pow_mul];norm_cast
 have hlt:=Pl.val_take_lt s.data.toList (k+1) (by omega)
 have hsn:=Pl.take_snoc s.data.toList k (by simpa using h)
 have hlen:(s.data.toList.take k).length=k:=by rw [List.length_take,show s.data.toList.length=s.size from by simp];omega
 have hv:=Pl.val_snoc (s.data.toList.getD k 0) (s.data.toList.take k)
 rw [← hsn,ba_getD s k h,hlen] at hv
 rw [e1,e2,← Int.natCast_mul]
 have hle:s[k].toNat % 128 * 128 ^ k≤Pl.val (s.data.toList.take (k+1)):=by rw [hv];omega
 rw [wrap64_in ((s[k].toNat % 128 * 128 ^ k:Nat):Int) ⟨by omega,by omega⟩,← Int.natCast_add,← hv,wrap64_in _ ⟨by omega,by omega⟩]
set_option maxHeartbeats 400000 in
theorem first_any (s:ByteArray) (hs:s.size≤2097152) (w:World) :
  Calls Tryz.prog 87 #[.string s] w fun e w'=>e=.returned (.tuple #[.int .i64 (Pl.fst s.data.toList),.int .i64 (Pl.snd s.data.toList)])∧Below w.heap.size w w':=by
 go_enter Tryz.func87,Tryz.ntmps87
 go_wp2_with fail
 go_loopw [4,5] (fun v i wr=>∃ k:Nat,k≤9∧k≤s.size∧i=.int .i64 k∧v=.int .i64 (Pl.val (s.data.toList.take k))∧(∀ j,j<k→128≤(s.data.toList.getD j 0).toNat)∧Below w.heap.size w wr) (fun _ i _=>9 - (intOf i).toNat)
 case atStart=>exact ⟨0,by omega,by omega,rfl,rfl,fun j h=>absurd h (by omega),Below.refl _ _⟩
 case round =>
  obtain ⟨k,h9,hk,rfl,rfl,hld,hb⟩:=hrel
  have hv:=Pl.val_lt (s.data.toList.take k)
  have HO:Hid (k=9∨k=s.size→Pl.fst s.data.toList=0∧Pl.snd s.data.toList=0):=fun h=>Pl.first_out _ k h9 (by simpa using hk) hld (by simpa using h)
  by_cases h1:k<s.size
  ·by_cases h2:k<9
   ·have HE:Hid (wrap64 (↑(Pl.val (List.take k s.data.toList))+wrap64 ((wrap64 ↑s[k].toNat).tmod 128 * 2 ^ (7 * k)))=(Pl.val (s.data.toList.take (k+1)):Int)):=step_eq s k h1 h2
    have hlt:=Pl.val_take_lt s.data.toList (k+1) (by omega)
    go_wp2_with fail
    ·rw [HE.out]
     refine (number_any _ _ (Nat.le_refl _) (by omega) (by omega) _).mono ?_
     rintro e w1 ⟨rfl,hb1⟩
     rw [Int.toNat_natCast]
     go_wp2_with fail
     ·have hq:(Pl.num (Pl.val (List.take (k+1) s.data.toList)) == (s.extract 0 (k+1)).toList)=true:=by assumption
      have hlow:(s[k].toNat:Int)<128:=by assumption
      have hst:=(Pl.first_stop s.data.toList k h2 (by simpa using h1) hld (by rw [ba_getD s k h1];omega)).1 (by rw [extract_take] at hq;exact eq_of_beq hq)
      go_ret2
      exact ⟨ret_ints (by rw [hst.1]) (by rw [hst.2];omega),hb.trans (hb1.mono hb.size)⟩
     ·have hq:(Pl.num (Pl.val (List.take (k+1) s.data.toList)) == (s.extract 0 (k+1)).toList)=false:=by assumption
      have hlow:(s[k].toNat:Int)<128:=by assumption
      have hst:=(Pl.first_stop s.data.toList k h2 (by simpa using h1) hld (by rw [ba_getD s k h1];omega)).2 (by rw [extract_take] at hq;exact ne_of_beq_false hq)
      go_ret2
      exact ⟨ret_ints (by rw [hst.1];rfl) (by rw [hst.2];rfl),hb.trans (hb1.mono hb.size)⟩
    ·rw [HE.out]
     refine ⟨⟨k+1,by omega,by omega,by go_num,rfl,?_,hb⟩,by simp [intOf];omega⟩
     have hhi:128≤(s[k].toNat:Int):=by assumption
     intro j hj
     by_cases hjk:j=k
     ·subst hjk;rw [ba_getD s j h1];omega
     ·exact hld j (by omega)
   ·go_wp2_with fail
    go_ret2
    have:=HO.out (Or.inl (by omega))
    exact ⟨ret_ints (by rw [this.1];rfl) (by rw [this.2];rfl),hb⟩
  ·go_wp2_with fail
   go_ret2
   have:=HO.out (Or.inr (by omega))
   exact ⟨ret_ints (by rw [this.1];rfl) (by rw [this.2];rfl),hb⟩
end Go.Proofs.YtgcedalggnmooaaGreatDoor
namespace Go.Proofs.YtgcedalggnmooaaGreatDoor
open Go.RowKit
theorem tU48:Tryz.prog.underlying 55=some (.slice 3):=by kernel_rfl
theorem info3:(Tryz.prog.info? 3).map (fun i=>(i.zero,i.size,i.bytes))=some (some (.int .i64 0),1,8):=by kernel_rfl
def strOf:Value→ByteArray | .string s=>s | _=>ByteArray.empty
def I (ns:List Nat):List Value:=ns.map fun (n:Nat)=>Value.int .i64 (n:Int)
theorem extract_drop (s:ByteArray) (n:Nat):(s.extract n s.size).data.toList=s.data.toList.drop n:=by
 rw [ByteArray.data_extract]
 simp [Array.toList_extract]
 rw [List.take_of_length_le (by simp)]
theorem own1 {base:Nat} {ns:List Nat} {n:Nat} {w1:World} {v1:Value}
  (h:w1.ownsRow base 3 1 v1 (ns.length+1) (I ns++[.int .i64 (n:Int)])):w1.ownsRow base 3 1 v1 (ns++[n]).length (I (ns++[n])):=by
 have e:I (ns++[n])=I ns++[.int .i64 (n:Int)]:=by simp [I]
 rw [e,List.length_append];exact h
set_option maxHeartbeats 400000 in
theorem numbers_any (s:ByteArray) (hs:s.size≤2097152) (w:World) :
  Calls Tryz.prog 66 #[.string s] w fun e w'=>Below w.heap.size w w' ∧
   ((∃ ns v,Pl.nums s.data.toList=some ns∧e=.returned (.tuple #[v,.bool true])∧w'.ownsRow w.heap.size 3 1 v ns.length (I ns)) ∨
    (Pl.nums s.data.toList=none∧e=.returned (.tuple #[.slice none 0 0,.bool false]))):=by
 obtain ⟨i0,hi,hz0,hz1,hz2⟩:=info_parts info3
 go_enter Tryz.func66,Tryz.ntmps66
 go_wp2_with fail
 go_loopw [0,4] (fun t o wr=>∃ (t':ByteArray) (ns:List Nat),t=.string t'∧wr.ownsRow w.heap.size 3 1 o ns.length (I ns)∧ns.length+t'.size≤s.size∧Hid (Pl.nums s.data.toList=(Pl.nums t'.data.toList).map (ns++·))∧Below w.heap.size w wr) (fun t _ _=>(strOf t).size)
 case atStart=>exact ⟨s,[],rfl,World.ownsRow_nil _ _ _ _,by simp,(by simp [Hid]),Below.refl _ _⟩
 case round =>
  obtain ⟨t,ns,rfl,hown,hlen,hnm,hb⟩:=hrel
  by_cases hte:t.toList.isEmpty=true
  ·go_wp2_with fail
   have hnil:t.data.toList=[]:=by rw [ByteArray.toList_eq] at hte;simpa using hte
   go_ret2
   refine ⟨hb,Or.inl ⟨ns,_,?_,rfl,hown⟩⟩
   rw [hnm.out,hnil,Pl.nums_nil];simp
  ·obtain ⟨f,hf⟩:∃ f,f=Pl.fst t.data.toList:=⟨_,rfl⟩
   obtain ⟨n,hn⟩:∃ n,n=Pl.snd t.data.toList:=⟨_,rfl⟩
   have h1:=first_any t (by omega) wr
   rw [← hf,← hn] at h1
   have hne:t.data.toList≠[]:=by rw [ByteArray.toList_eq] at hte;simpa using hte
   have hnle:n≤t.size:=by rw [hn];have:=Pl.snd_le t.data.toList;simpa using this
   have HN:Hid (n=0→Pl.nums s.data.toList=none):=fun h0=>by
    rw [hnm.out,Pl.nums_none hne (by omega)];rfl
   have HS:Hid (n≠0→Pl.nums s.data.toList=(Pl.nums (t.data.toList.drop n)).map ((ns++[f])++·)):=fun h0=>by
    rw [hnm.out,Pl.nums_cons hne (by omega),← hf,← hn]
    cases Pl.nums (List.drop n t.data.toList) <;> simp
   have HF:Hid (f=Pl.fst t.data.toList):=hf
   have hfl:f<9223372036854775808:=by rw [hf];exact Pl.fst_lt _
   have H1:=hide h1
   clear hf hn h1 hnm
   by_cases h0:n=0
   ·subst h0
    go_wp2_with (go_at_call 87;refine (H1.out).mono ?_;rintro e w1 ⟨rfl,hb1⟩)
    go_ret2
    exact ⟨hb.trans (hb1.mono hb.size),Or.inr ⟨HN.out (by trivial),rfl⟩⟩
   ·have hb0:((n:Int) == 0)=false:=by simpa using h0
    go_wp2_with (first
     | (go_at_call 87;refine (H1.out).mono ?_;rintro e w1 ⟨rfl,hb1⟩)
     | (at_builtin;refine wpList_append_own _ rfl _ _ 55 rfl (w.heap.size) 3 i0 (.int .i64 0) 1 8 tU48 hi hz0 hz1 hz2 rfl (by decide) _ _ _ rfl ((own_below hown hb1).alloc _) ⟨w1.heap.size,0,none⟩ 1 1 [.int .i64 (f:Int)] rfl rfl ?c1 ?c2 ?c3 ?c4 ?c5 ?_))
    case c1=>exact one_new _ _ _
    case c2=>intro u hu;simp at hu;subst hu;rfl
    case c3=>unfold maxLen;omega
    case c4=>omega
    case c5=>have:=hb.size;have:=hb1.size;simp;omega
    intro v' w2 hown2 hgrow hnn
    have hbb:Below w.heap.size w w2:=((hb.trans (hb1.mono hb.size)).alloc (by have:=hb.size;have:=hb1.size;omega) _).grown hgrow (by have:=hb.size;have:=hb1.size;simp;omega) (fun k hk=>(hown.lt k hk).1)
    have ho:=own1 hown2
    have HS':Hid (Pl.nums s.data.toList=(Pl.nums (t.extract n t.size).data.toList).map ((ns++[f])++·)):=by rw [extract_drop];exact HS.out h0
    clear hown2 hgrow hown hnn HF HN HS hb hb1
    go_wp2_with fail
    go_roundw
    case rel=>exact ⟨_,ns++[f],rfl,ho,by simp;omega,HS',hbb⟩
    case measure=>simp [strOf];omega
end Go.Proofs.YtgcedalggnmooaaGreatDoor
namespace Go.Proofs.YtgcedalggnmooaaGreatDoor
open Go.RowKit
set_option maxHeartbeats 400000 in
theorem told_nil (w:World):Calls Tryz.prog 53 #[.slice none 0 0] w fun e w'=>e=.returned (.string ⟨#[]⟩)∧w'=w:=by
 go_enter Tryz.func53,Tryz.ntmps53
 go_wp2_with fail
 refine wp_loop_rounds 1 ?_;rw [rounds_succ]
 go_wp2_with fail
 go_ret
 exact ⟨rfl,rfl⟩
set_option maxHeartbeats 400000 in
theorem told_some (b cap:Nat) (ns:List Nat) (hn:∀ n ∈ ns,n<9223372036854775808) (hl:ns.length≤2097152) (w:World) (hbw:b<w.heap.size)
  (hc:∀ j,j<ns.length→w.cell? ⟨b,j,none⟩=some (.int .i64 (ns.getD j 0:Nat))) :
  Calls Tryz.prog 53 #[.slice (some ⟨b,0,none⟩) ns.length cap] w fun e w'=>e=.returned (.string ⟨(Pl.toldB ns).toArray⟩)∧Below w.heap.size w w':=by
 go_enter Tryz.func53,Tryz.ntmps53
 go_wp2_with fail
 go_loopw [3,4] (fun t i wr=>∃ k:Nat,k≤ns.length∧i=.int .i64 k∧t=.string ⟨(Pl.toldB (ns.take k)).toArray⟩∧Below w.heap.size w wr) (fun _ i _=>ns.length - (intOf i).toNat)
 case atStart=>exact ⟨0,by omega,rfl,rfl,Below.refl _ _⟩
 case round =>
  obtain ⟨k,hk,rfl,rfl,hb⟩:=hrel
  by_cases hlt:k<ns.length
  ·obtain ⟨n,hn0⟩:∃ n,n=ns.getD k 0:=⟨_,rfl⟩
   have hcx:wr.cell? ⟨b,k,none⟩=some (.int .i64 (n:Int)):=(hb.cell (by exact hbw)).trans (by rw [hn0];exact hc k hlt)
   have hnl:n<9223372036854775808:=by rw [hn0];exact hn _ (by simp [List.getD_eq_getElem?_getD,hlt])
   have h9:=Pl.num_len n hnl
   have htl:(Pl.toldB (ns.take k)).length≤9 * 2097152:=by
    have:=Pl.toldB_len (ns.take k) (fun x hx=>hn x (List.mem_of_mem_take hx))
    have h2:(ns.take k).length≤k:=List.length_take_le _ _
    omega
   have HT:Hid (Pl.toldB (ns.take (k+1))=Pl.toldB (ns.take k)++Pl.num n):=by rw [Pl.toldB_take ns k hlt,← hn0];rfl
   have H1:=hide (number_any _ (n:Int) (Nat.le_refl _) (by omega) (by omega) wr)
   rw [Int.toNat_natCast] at H1
   clear hn0 hc hn
   go_wp2_with (go_at_call 76;refine (H1.out).mono ?_;rintro e w1 ⟨rfl,hb1⟩)
   go_roundw
   case rel=>exact ⟨k+1,by omega,by go_num,by rw [HT.out];exact congrArg Value.string (ByteArray.mk_append_mk _ _),hb.trans (hb1.mono hb.size)⟩
   case measure=>simp [intOf];omega
  ·go_wp2_with fail
   go_ret
   exact ⟨ret_str (by rw [List.take_of_length_le (by omega)]),hb⟩
theorem ret_bool {a b:Bool} (h:a=b):Ending.returned (.bool a)=.returned (.bool b):=by rw [h]
theorem u8_ne {k c:UInt8} (h:¬ k=c):((k.toNat:Int) == (c.toNat:Int))=false:=by
 rw [beq_eq_false_iff_ne];intro e;exact h (UInt8.toNat_inj.1 (by omega))
set_option maxHeartbeats 400000 in
theorem may_any (k:UInt8) (n:Nat) (hn:n<9223372036854775808) (w:World):Calls Tryz.prog 67 #[.int .u8 (k.toNat:Int),.int .i64 (n:Int)] w fun e w'=>e=.returned (.bool (Pl.mayB k n))∧w'=w:=by
 by_cases h1:k=105
 ·subst h1
  rcases (show n=0∨(1≤n∧n≤2147483647)∨2147483647<n from by omega) with h | h | h
  all_goals
   go_enter Tryz.func67,Tryz.ntmps67
   go_wp2_with fail
   go_ret
   exact ⟨ret_bool (by rw [Bool.eq_iff_iff];simp [Pl.mayB];try omega),rfl⟩
 ·by_cases h2:k=99
  ·subst h2
   rcases (show n=0∨(1≤n∧n≤2147483647)∨2147483647<n from by omega) with h | h | h
   all_goals
    go_enter Tryz.func67,Tryz.ntmps67
    go_wp2_with fail
    go_ret
    exact ⟨ret_bool (by rw [Bool.eq_iff_iff];simp [Pl.mayB];try omega),rfl⟩
  ·by_cases h3:k=100
   ·subst h3
    rcases (show n≤2147483647∨2147483647<n from by omega) with h | h
    all_goals
     go_enter Tryz.func67,Tryz.ntmps67
     go_wp2_with fail
     go_ret
     exact ⟨ret_bool (by rw [Bool.eq_iff_iff];simp [Pl.mayB];try omega),rfl⟩
   ·have e1:((k.toNat:Int) == 105)=false:=u8_ne h1
    have e2:((k.toNat:Int) == 99)=false:=u8_ne h2
    have e3:((k.toNat:Int) == 100)=false:=u8_ne h3
    have HM:Hid (Pl.mayB k n=decide (n≤3)):=by simp [Hid,Pl.mayB,h1,h2,h3]
    clear h1 h2 h3
    rcases (show n≤3∨3<n from by omega) with h | h
    all_goals
     go_enter Tryz.func67,Tryz.ntmps67
     go_wp2_with fail
     go_ret
     exact ⟨ret_bool (by rw [HM.out,Bool.eq_iff_iff];simp;try omega),rfl⟩
end Go.Proofs.YtgcedalggnmooaaGreatDoor
namespace Go.Proofs.YtgcedalggnmooaaGreatDoor
open Go.RowKit
set_option maxHeartbeats 400000 in
theorem kinds_out (c:Nat) (h:c=0∨13≤c) (hc:c<256) (w:World):Calls Tryz.prog 65 #[.int .i64 (c:Int)] w fun e w'=>e=.returned (.string ⟨(Pl.kindsL c).toArray⟩)∧Below w.heap.size w w':=by
 have hk:Pl.kindsL c=[]:=by
  rcases h with rfl | h
  ·rfl
  ·unfold Pl.kindsL;split <;> first | rfl | omega
 rw [hk]
 rcases h with rfl | h
 all_goals
  go_enter Tryz.func65,Tryz.ntmps65
  go_wp2_with fail
  go_ret
  exact ⟨rfl,(Below.refl _ _).alloc (Nat.le_refl _) _⟩
set_option maxHeartbeats 800000 in
theorem kinds_in (c:Nat) (h1:1≤c) (h2:c≤12) (w:World):Calls Tryz.prog 65 #[.int .i64 (c:Int)] w fun e w'=>e=.returned (.string ⟨(Pl.kindsL c).toArray⟩)∧Below w.heap.size w w':=by
 rcases (show c=1∨c=2∨c=3∨c=4∨c=5∨c=6∨c=7∨c=8∨c=9∨c=10∨c=11∨c=12 from by omega) with rfl | rfl | rfl | rfl | rfl | rfl | rfl | rfl | rfl | rfl | rfl | rfl
 all_goals
  go_enter Tryz.func65,Tryz.ntmps65
  go_wp2_with fail
  go_ret
  exact ⟨rfl,(Below.refl _ _).alloc (Nat.le_refl _) _⟩
theorem kinds_any (c:Nat) (hc:c<256) (w:World):Calls Tryz.prog 65 #[.int .i64 (c:Int)] w fun e w'=>e=.returned (.string ⟨(Pl.kindsL c).toArray⟩)∧Below w.heap.size w w':=by
 by_cases h:1≤c∧c≤12
 ·exact kinds_in c h.1 h.2 w
 ·exact kinds_out c (by omega) hc w
end Go.Proofs.YtgcedalggnmooaaGreatDoor
namespace Go.Proofs.YtgcedalggnmooaaGreatDoor
open Go.RowKit
theorem tU134:Tryz.prog.underlying 70=some (.slice 4):=by kernel_rfl
theorem info4:(Tryz.prog.info? 4).map (fun i=>(i.zero,i.size,i.bytes))=some (some (.bool false),1,1):=by kernel_rfl
def Bs (l:List Bool):List Value:=l.map Value.bool
theorem own_shape {w:World} {base e n:Nat} {v:Value} {xs:List Value} (h:w.ownsRow base e 1 v n xs):∃ a cap,v=.slice a n cap:=by
 rcases h.2 with ⟨hv,hx⟩ | ⟨g,cap,cur,hv,_⟩
 ·exact ⟨none,0,by rw [hv,hx]⟩
 ·exact ⟨_,cap,hv⟩
theorem own_some {w:World} {base e n:Nat} {v:Value} {xs:List Value} (h:w.ownsRow base e 1 v n xs) (hn:0<n):∃ g cap,v=.slice (some ⟨g,0,none⟩) n cap∧base≤g∧g<w.heap.size:=by
 rcases h.2 with ⟨hv,hx⟩ | ⟨g,cap,cur,hv,hg,hh,_⟩
 ·omega
 ·exact ⟨g,cap,hv,hg,(Array.getElem?_eq_some_iff.1 hh).1⟩
theorem rowB_cell {w:World} {base g n cap:Nat} {bs:List Bool} (h:w.ownsRow base 4 1 (.slice (some ⟨g,0,none⟩) n cap) n (Bs bs)) (hl:bs.length=n) (k:Nat) (hk:k<n) :
  w.cell? ⟨g,k,none⟩=some (.bool (bs.getD k false)):=by
 rw [h.cellAt k (by omega)]
 simp [Bs,List.getD_eq_getElem?_getD,List.getElem?_eq_getElem (show k<bs.length by omega)]
theorem rowB_set {w:World} {base g n cap:Nat} {bs:List Bool} (h:w.ownsRow base 4 1 (.slice (some ⟨g,0,none⟩) n cap) n (Bs bs)) (k:Nat) (b:Bool) :
  (w.setCell ⟨g,k,none⟩ (.bool b)).ownsRow base 4 1 (.slice (some ⟨g,0,none⟩) n cap) n (Bs (bs.set k b)):=by
 have:=(h.stored k (.bool b)).1
 rw [show Bs (bs.set k b)=(Bs bs).set k (.bool b) from by simp [Bs,List.map_set]]
 exact this
theorem info5:(Tryz.prog.info? 5).map (fun i=>(i.zero,i.size,i.bytes))=some (some (.int .u8 0),1,1):=by kernel_rfl
def U8 (l:List UInt8):List Value:=l.map fun b=>Value.int .u8 (b.toNat:Int)
theorem rowU_cell {w:World} {base g n cap:Nat} {l:List UInt8} (h:w.ownsRow base 5 1 (.slice (some ⟨g,0,none⟩) n cap) n (U8 l)) (hl:l.length=n) (k:Nat) (hk:k<n) :
  w.cell? ⟨g,k,none⟩=some (.int .u8 ((l.getD k 0).toNat:Int)):=by
 rw [h.cellAt k (by omega)]
 simp [U8,List.getD_eq_getElem?_getD,List.getElem?_eq_getElem (show k<l.length by omega)]
theorem rowU_set {w:World} {base g n cap:Nat} {l:List UInt8} (h:w.ownsRow base 5 1 (.slice (some ⟨g,0,none⟩) n cap) n (U8 l)) (k:Nat) (x:Int) (hx:0≤x∧x<256) :
  (w.setCell ⟨g,k,none⟩ (.int .u8 x)).ownsRow base 5 1 (.slice (some ⟨g,0,none⟩) n cap) n (U8 (l.set k (UInt8.ofNat x.toNat)))∧w.grownBy (w.setCell ⟨g,k,none⟩ (.int .u8 x)) (some g):=by
 have:=h.stored k (.int .u8 x)
 have hu:((UInt8.ofNat x.toNat).toNat:Int)=x:=by rw [UInt8.toNat_ofNat'];omega
 rw [show U8 (l.set k (UInt8.ofNat x.toNat))=(U8 l).set k (.int .u8 x) from by simp only [U8,List.map_set,hu]]
 exact this
theorem bits_u8_range (op:BinOp) (x y:Int):0≤bits op .u8 x y∧bits op .u8 x y<256:=by
 unfold bits;rw [IntKind.wrap_u8'];omega
theorem made4:(madeCells (Value.int .u8 0).cells (4 * 1)).toList=U8 [0,0,0,0]:=by kernel_rfl
end Go.Proofs.YtgcedalggnmooaaGreatDoor
namespace Go.Proofs.YtgcedalggnmooaaGreatDoor
open Go.RowKit
set_option maxHeartbeats 400000 in
theorem command_empty (w:World) :
  Calls Tryz.prog 50 #[.string ⟨#[]⟩] w fun e w'=>e=.returned (.tuple #[.int .i64 0,.slice none 0 0,.int .i64 1])∧w'=w:=by
 go_enter Tryz.func50,Tryz.ntmps50
 go_wp2_with fail
 go_ret3
 exact ⟨rfl,rfl⟩
theorem extract1_size (s:ByteArray):(s.extract 1 s.size).size=s.size - 1:=by rw [ByteArray.size_extract];omega
theorem numbers_some (s:ByteArray) (hs:s.size≤2097152) (ns:List Nat) (hn:Pl.nums s.data.toList=some ns) (w:World) :
  Calls Tryz.prog 66 #[.string s] w fun e w'=>Below w.heap.size w w' ∧
   ∃ a cap,e=.returned (.tuple #[.slice a ns.length cap,.bool true])∧w'.ownsRow w.heap.size 3 1 (.slice a ns.length cap) ns.length (I ns):=by
 refine (numbers_any s hs w).mono ?_
 rintro e w' ⟨hb,h | h⟩
 ·obtain ⟨ns',v,h1,rfl,ho⟩:=h
  rw [hn] at h1
  cases h1
  obtain ⟨a,cap,rfl⟩:=own_shape ho
  exact ⟨hb,a,cap,rfl,ho⟩
 ·rw [hn] at h;cases h.1
theorem numbers_none (s:ByteArray) (hs:s.size≤2097152) (hn:Pl.nums s.data.toList=none) (w:World) :
  Calls Tryz.prog 66 #[.string s] w fun e w'=>Below w.heap.size w w'∧e=.returned (.tuple #[.slice none 0 0,.bool false]):=by
 refine (numbers_any s hs w).mono ?_
 rintro e w' ⟨hb,h | h⟩
 ·obtain ⟨ns',v,h1,_⟩:=h
  rw [hn] at h1
  cases h1
 ·exact ⟨hb,h.2⟩
theorem not_empty (s:ByteArray) (h0:0<s.size):s.toList.isEmpty=false:=by
 rw [ByteArray.toList_eq]
 cases h:s.data.toList with
 | nil =>
  have hl:s.data.toList.length=s.size:=by simp
  rw [h] at hl
  have:s.size=0:=hl.symm
  omega
 | cons=>rfl
set_option maxHeartbeats 400000 in
theorem command_none (s:ByteArray) (hs:s.size≤2097152) (h0:0<s.size) (hn:Pl.nums (s.data.toList.drop 1)=none) (w:World) :
  Calls Tryz.prog 50 #[.string s] w fun e w'=>e=.returned (.tuple #[.int .i64 0,.slice none 0 0,.int .i64 1])∧Below w.heap.size w w':=by
 have hne:=not_empty s h0
 have hb:s[0].toNat<256:=UInt8.toNat_lt _
 have H1:=hide (kinds_any s[0].toNat hb w)
 have H2:=hide (numbers_none (s.extract 1 s.size) (by rw [extract1_size];omega) (by rw [extract_drop];exact hn))
 clear hn
 by_cases hk:(Pl.kindsL s[0].toNat).isEmpty=true
 all_goals
  generalize Pl.kindsL s[0].toNat=ks at *
  go_enter Tryz.func50,Tryz.ntmps50
  go_wp2_with fail
  refine (H1.out).mono ?_;rintro e w1 ⟨rfl,hb1⟩
  go_wp2_with fail
  refine (H2.out _).mono ?_;rintro e w2 ⟨hb2,rfl⟩
  go_wp2_with fail
  go_ret3
  exact ⟨rfl,hb1.trans (hb2.mono hb1.size)⟩
set_option maxHeartbeats 400000 in
theorem command_form (s:ByteArray) (hs:s.size≤2097152) (h0:0<s.size) (ns:List Nat) (hn:Pl.nums (s.data.toList.drop 1)=some ns)
  (hf:Pl.kindsL s[0].toNat=[]∨ns.length≠(Pl.kindsL s[0].toNat).length) (w:World) :
  Calls Tryz.prog 50 #[.string s] w fun e w'=>e=.returned (.tuple #[.int .i64 0,.slice none 0 0,.int .i64 1])∧Below w.heap.size w w':=by
 have hne:=not_empty s h0
 have hb:s[0].toNat<256:=UInt8.toNat_lt _
 have H1:=hide (kinds_any s[0].toNat hb w)
 have H2:=hide (numbers_some (s.extract 1 s.size) (by rw [extract1_size];omega) ns (by rw [extract_drop];exact hn))
 clear hn
 generalize Pl.kindsL s[0].toNat=ks at *
 by_cases hk:ks.isEmpty=true
 ·clear hf
  go_enter Tryz.func50,Tryz.ntmps50
  go_wp2_with fail
  refine (H1.out).mono ?_;rintro e w1 ⟨rfl,hb1⟩
  go_wp2_with fail
  refine (H2.out _).mono ?_;rintro e w2 ⟨hb2,a,cap,rfl,ho⟩
  go_wp2_with fail
  go_ret3
  exact ⟨rfl,hb1.trans (hb2.mono hb1.size)⟩
 ·have hlen:¬ ns.length=ks.length:=by
   rcases hf with hf | hf
   ·subst hf;simp at hk
   ·exact hf
  have hlb:((ns.length:Int) != (ks.length:Int))=true:=by rw [bne_iff_ne];omega
  clear hf
  go_enter Tryz.func50,Tryz.ntmps50
  go_wp2_with fail
  refine (H1.out).mono ?_;rintro e w1 ⟨rfl,hb1⟩
  go_wp2_with fail
  refine (H2.out _).mono ?_;rintro e w2 ⟨hb2,a,cap,rfl,ho⟩
  go_wp2_with fail
  go_ret3
  exact ⟨rfl,hb1.trans (hb2.mono hb1.size)⟩
theorem mays_iff:∀ (ks:List UInt8) (ns:List Nat),ks.length=ns.length→(Pl.mays ks ns=true↔∀ j,j<ns.length→Pl.mayB (ks.getD j 0) (ns.getD j 0)=true)
 | [],[],_=>by simp [Pl.mays]
 | [],_ :: _,h=>by simp at h
 | _ :: _,[],h=>by simp at h
 | k :: ks,n :: ns,h=>by
  rw [Pl.mays,Bool.and_eq_true,mays_iff ks ns (by simpa using h)]
  constructor
  ·rintro ⟨h1,h2⟩ j hj
   cases j with
   | zero=>exact h1
   | succ j=>exact h2 j (by simpa using hj)
  ·intro h1
   exact ⟨h1 0 (by simp),fun j hj=>h1 (j+1) (by simpa using hj)⟩
theorem rowI_cell {w:World} {base g n cap:Nat} {ns:List Nat} (h:w.ownsRow base 3 1 (.slice (some ⟨g,0,none⟩) n cap) n (I ns)) (hl:ns.length=n) (k:Nat) (hk:k<n) :
  w.cell? ⟨g,k,none⟩=some (.int .i64 (ns.getD k 0:Nat)):=by
 rw [h.cellAt k (by omega)]
 simp [I,List.getD_eq_getElem?_getD,List.getElem?_eq_getElem (show k<ns.length by omega)]
set_option maxHeartbeats 800000 in
theorem command_good (s:ByteArray) (hs:s.size≤2097152) (h0:0<s.size) (ns:List Nat) (hn:Pl.nums (s.data.toList.drop 1)=some ns)
  (hne0:Pl.kindsL s[0].toNat≠[]) (hlen:ns.length=(Pl.kindsL s[0].toNat).length) (w:World) :
  Calls Tryz.prog 50 #[.string s] w fun e w'=>Below w.heap.size w w' ∧
   ((Pl.mays (Pl.kindsL s[0].toNat) ns=false∧e=.returned (.tuple #[.int .i64 0,.slice none 0 0,.int .i64 2])) ∨
    (Pl.mays (Pl.kindsL s[0].toNat) ns=true∧∃ g cap,e=.returned (.tuple #[.int .i64 (s[0].toNat:Int),.slice (some ⟨g,0,none⟩) ns.length cap,.int .i64 0])∧w'.ownsRow w.heap.size 3 1 (.slice (some ⟨g,0,none⟩) ns.length cap) ns.length (I ns))):=by
 have hne:=not_empty s h0
 have hb:s[0].toNat<256:=UInt8.toNat_lt _
 have H1:=hide (kinds_any s[0].toNat hb w)
 have H2:=hide (numbers_some (s.extract 1 s.size) (by rw [extract1_size];omega) ns (by rw [extract_drop];exact hn))
 have HB:=hide (Pl.nums_lt _ _ ns (Nat.le_refl _) hn)
 clear hn
 have hkl:(Pl.kindsL s[0].toNat).length≤2097152:=by unfold Pl.kindsL;split <;> simp
 generalize Pl.kindsL s[0].toNat=ks at *
 have hk:ks.isEmpty=false:=by cases ks <;> simp at hne0 ⊢
 have hpos:0<ks.length:=by cases ks <;> simp at hne0 ⊢
 have hlb:((ns.length:Int) != (ks.length:Int))=false:=by rw [bne_eq_false_iff_eq];omega
 have HLen:=hide hlen
 have hle1:ns.length≤ks.length:=by omega
 have hle2:ks.length≤ns.length:=by omega
 have HMI:=hide (mays_iff ks ns hlen.symm)
 clear hlen hne0
 go_enter Tryz.func50,Tryz.ntmps50
 go_wp2_with fail
 refine (H1.out).mono ?_;rintro e w1 ⟨rfl,hb1⟩
 go_wp2_with fail
 refine (H2.out _).mono ?_;rintro e w2 ⟨hb2,a,cap,rfl,ho⟩
 obtain ⟨g,cap',hv,hg,hgw⟩:=own_some ho (by omega)
 rw [hv] at ho
 rw [hv]
 clear hv
 have hbb:=hb1.trans (hb2.mono hb1.size)
 have ho':w2.ownsRow w.heap.size 3 1 (.slice (some ⟨g,0,none⟩) ns.length cap') ns.length (I ns):=⟨ho.1,by
  rcases ho.2 with h | ⟨g1,c1,cur,h1,h2,h3⟩
  ·exact Or.inl h
  ·exact Or.inr ⟨g1,c1,cur,h1,Nat.le_trans hb1.size h2,h3⟩⟩
 have HO:=hide ho'
 have hcells:=fun k hk=>rowI_cell ho' rfl k hk
 clear ho ho' hb1 hb2
 go_wp2_with fail
 go_loopw [9,10] (fun i _ wr=>∃ k:Nat,k≤ns.length∧i=.int .i64 k∧(∀ j,j<k→Pl.mayB (ks.getD j 0) (ns.getD j 0)=true)∧∃ nq,wr=w2.drewN nq) (fun i _ _=>ns.length - (intOf i).toNat)
 case atStart=>exact ⟨0,by omega,rfl,fun j h=>absurd h (by omega),0,rfl⟩
 case round =>
  obtain ⟨k,hkn,rfl,hall,nqo,hwr⟩:=hrel
  by_cases hlt:k<ns.length
  ·obtain ⟨n,hn0⟩:∃ n,n=ns.getD k 0:=⟨_,rfl⟩
   have hcx:wr.cell? ⟨g,k,none⟩=some (.int .i64 (n:Int)):=by rw [hn0,hwr];exact hcells k hlt
   have HW:=hide hwr
   clear hwr
   have hnl:n<9223372036854775808:=by rw [hn0];exact HB.out _ (by simp [List.getD_eq_getElem?_getD,hlt])
   have hkk:k<ks.length:=by omega
   have HX:Hid (ks.getD k 0=ks[k]):=by simp [Hid,List.getD_eq_getElem?_getD,hkk]
   have HN0:=hide hn0
   clear hn0 hcells
   go_wp2_with fail
   go_quiet ((go_at_call 67;exact Calls.quiet_of_same (may_any _ n hnl _)))
   have hx:(({ data:=ks.toArray }:ByteArray)[k]'(by simpa [ByteArray.size_mk'] using hkk))=ks.getD k 0:=by
    rw [HX.out];rfl
   rw [hx]
   have HX2:=hide hx
   clear hx
   generalize hm:Pl.mayB (ks.getD k 0) n=m
   have HM:=hide hm
   clear hm
   cases m with
   | true =>
    go_wp2_with fail
    go_roundw
    case rel =>
     refine ⟨k+1,by omega,by go_num,?_,nqo+nq,?_⟩
     ·intro j hj
      by_cases hjk:j=k
      ·subst hjk;rw [← HN0.out];exact HM.out
      ·exact hall j (by omega)
     ·rw [HW.out];simp
    case measure=>simp [intOf];omega
   | false =>
    go_wp2_with fail
    go_ret3
    refine ⟨?_,Or.inl ⟨?_,rfl⟩⟩
    ·rw [HW.out];exact below_drewN (below_drewN hbb nqo) nq
    ·cases hq:Pl.mays ks ns
     ·rfl
     ·have:=HMI.out.1 hq k hlt
      rw [← HN0.out,HM.out] at this
      cases this
  ·obtain rfl:k=ns.length:=by omega
   clear hlt
   subst hwr
   go_wp2_with fail
   go_ret3
   exact ⟨below_drewN hbb nqo,Or.inr ⟨HMI.out.2 hall,g,cap',rfl,HO.out⟩⟩
def CmdPost (w:World) (c:Pl.Cmd) (e:Ending) (w':World):Prop :=
 Below w.heap.size w w' ∧
 match c with
 | .error b=>e=.returned (.tuple #[.int .i64 0,.slice none 0 0,.int .i64 (b:Int)])
 | .ok (c,ns)=>∃ g cap,e=.returned (.tuple #[.int .i64 (c:Int),.slice (some ⟨g,0,none⟩) ns.length cap,.int .i64 0])∧w'.ownsRow w.heap.size 3 1 (.slice (some ⟨g,0,none⟩) ns.length cap) ns.length (I ns)
theorem command_any (s:ByteArray) (hs:s.size≤2097152) (w:World) :
  Calls Tryz.prog 50 #[.string s] w (CmdPost w (Pl.cmd s.data.toList)):=by
 by_cases h0:0<s.size
 ·have hl:s.data.toList=s[0] :: s.data.toList.drop 1:=by
   have h1:0<s.data.toList.length:=by simpa using h0
   have h2:s.data.toList[0] :: s.data.toList.drop (0+1)=s.data.toList.drop 0:=List.getElem_cons_drop h1
   rw [List.drop_zero] at h2
   exact h2.symm
  cases hn:Pl.nums (s.data.toList.drop 1) with
  | none =>
   have hc:Pl.cmd s.data.toList=.error 1:=by rw [hl];simp only [Pl.cmd,hn]
   rw [hc]
   exact (command_none s hs h0 hn w).mono fun e w' ⟨h1,h2⟩=>⟨h2,h1⟩
  | some ns =>
   by_cases hf:Pl.kindsL s[0].toNat=[]∨ns.length≠(Pl.kindsL s[0].toNat).length
   ·have hc:Pl.cmd s.data.toList=.error 1:=by rw [hl];simp only [Pl.cmd,hn];rw [if_pos hf]
    rw [hc]
    exact (command_form s hs h0 ns hn hf w).mono fun e w' ⟨h1,h2⟩=>⟨h2,h1⟩
   ·have hf1:Pl.kindsL s[0].toNat≠[]:=fun h=>hf (Or.inl h)
    have hf2:ns.length=(Pl.kindsL s[0].toNat).length:=Decidable.byContradiction fun h=>hf (Or.inr h)
    refine (command_good s hs h0 ns hn hf1 hf2 w).mono ?_
    rintro e w' ⟨hb,⟨hm,rfl⟩ | ⟨hm,g,cap,rfl,ho⟩⟩
    ·have hc:Pl.cmd s.data.toList=.error 2:=by rw [hl];simp only [Pl.cmd,hn];rw [if_neg hf];simp [hm]
     rw [hc];exact ⟨hb,rfl⟩
    ·have hc:Pl.cmd s.data.toList=.ok (s[0].toNat,ns):=by rw [hl];simp only [Pl.cmd,hn];rw [if_neg hf];simp [hm]
     rw [hc];exact ⟨hb,g,cap,rfl,ho⟩
 ·have he:s=⟨#[]⟩:=by
   apply ByteArray.ext
   apply Array.eq_empty_of_size_eq_zero
   have:s.data.size=s.size:=rfl
   omega
  subst he
  exact (command_empty w).mono fun e w' ⟨h1,h2⟩=>⟨h2 ▸ Below.refl _ _,h1⟩
end Go.Proofs.YtgcedalggnmooaaGreatDoor
