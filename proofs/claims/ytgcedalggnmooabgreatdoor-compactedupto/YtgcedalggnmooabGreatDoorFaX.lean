import Derived.Test.YtgcedalggnmooabGreatDoorWireAX
import Derived.Test.YtgcedalggnmooabGreatDoorMp0X
import Derived.Test.YtgcedalggnmooabGreatDoorR0X
import Derived.Test.YtgcedalggnmooabGreatDoorOrdX
set_option linter.unusedSimpArgs false
set_option linter.unusedVariables false
set_option maxRecDepth 100000
namespace Go.Proofs.YtgcedalggnmooabGreatDoor
open Go.RowKit
def rd1 (l:List UInt8):Option (Nat × List UInt8):=if Pl.snd l=0 then none else some (Pl.fst l,l.drop (Pl.snd l))
def rdB (lo hi:Nat) (l:List UInt8):Option (Nat × List UInt8):=(rd1 l).bind fun p=>if lo≤p.1∧p.1≤hi then some p else none
def Gu (w:World):Prop:=∃ t v,w.cell? ⟨4,0,none⟩=some (.iface t v)
def NU:Nat:=1+max 4 4
theorem Gu.rd {b:Nat} {w w':World} {s:ByteArray} (h:Gu w) (k:Rd b w w' s) (hb:NU≤b):Gu w':=by
 obtain ⟨t,v,hc⟩:=h
 exact ⟨t,v,by rw [k.other _ (by simp;unfold NU at hb;omega)];exact hc⟩
def bst (l:List UInt8):ByteArray:=⟨l.toArray⟩
theorem bst_list (l:List UInt8):(bst l).data.toList=l:=by simp [bst]
theorem bst_size (l:List UInt8):(bst l).size=l.length:=by show l.toArray.size=_;simp
theorem bst_cut (l:List UInt8) (k:Nat):(bst l).extract k (bst l).size=bst (l.drop k):=by
 apply ByteArray.ext
 rw [ByteArray.data_extract,bst_size]
 apply Array.toList_inj.1
 simp [bst]
 exact List.take_of_length_le (by simp)
theorem rd1_len {l r:List UInt8} {n:Nat} (h:rd1 l=some (n,r)):r.length≤l.length:=by
 unfold rd1 at h
 split at h
 ·cases h
 ·cases h;simp
theorem rdNum_any (b:Nat) (hb:NU≤b) (l:List UInt8) (hl:l.length≤1000000000) (w:World) (hg:Gl w) (hr:Rd b w w (bst l)) :
  Calls Tryz.prog 62 #[.pointer (some ⟨b,0,none⟩)] w fun e w' =>
   match rd1 l with
   | some (n,r)=>e=.returned (.int .i64 (n:Int))∧Rd b w w' (bst r)
   | none=>Broke b w e w':=by
 refine (number_get b (by unfold NU at hb;omega) (bst l) (by rw [bst_size];omega) w w hg hr).mono ?_
 intro e w' h
 rw [bst_list,bst_cut] at h
 unfold rd1
 rcases h with ⟨h1,rfl,h3⟩ | ⟨h1,h2⟩
 ·rw [if_neg h1];exact ⟨rfl,h3⟩
 ·rw [if_pos h1];exact h2
set_option maxHeartbeats 800000 in
theorem must_any (hold:Bool) (w:World) (hu:Gu w):Calls Tryz.prog 89 #[.bool hold] w fun e w'=>w'=w∧(if hold then e=.returned (.tuple #[]) else ∃ t v,e=.panicked [{ v:=.iface t v,recovered:=false }]):=by
 obtain ⟨t,v,hc⟩:=hu
 cases hold
 ·go_enter Tryz.func89,Tryz.ntmps89
  go_wp2_with fail
  exact ⟨rfl,rfl,t,v,rfl⟩
 ·go_enter Tryz.func89,Tryz.ntmps89
  go_wp2_with fail
  go_end0
  exact ⟨rfl,rfl⟩
set_option maxHeartbeats 1600000 in
theorem btw_any (b:Nat) (hb:NU≤b) (l:List UInt8) (hl:l.length≤1000000000) (lo hi:Nat) (hlo:lo≤2147483648) (hhi:hi≤2147483647) (w:World) (hg:Gl w) (hu:Gu w) (hr:Rd b w w (bst l)) :
  Calls Tryz.prog 90 #[.pointer (some ⟨b,0,none⟩),.int .i64 (lo:Int),.int .i64 (hi:Int)] w fun e w' =>
   match rdB lo hi l with
   | some (n,r)=>e=.returned (.int .i64 (n:Int))∧Rd b w w' (bst r)
   | none=>Broke b w e w':=by
 have HN:=hide (rdNum_any b hb l hl w hg hr)
 unfold rdB
 cases h1:rd1 l with
 | none =>
  rw [h1] at HN
  clear h1
  go_enter Tryz.func90,Tryz.ntmps90
  go_wp2_with (go_at_call 62;refine (HN.out).mono ?_;rintro e w1 ⟨⟨t,v,rfl⟩,hrd⟩)
  exact ⟨rfl,⟨t,v,rfl⟩,hrd⟩
 | some p =>
  obtain ⟨n,r⟩:=p
  rw [h1] at HN
  by_cases hc:lo≤n∧n≤hi
  ·have hc1:(lo:Int)≤(n:Int):=by omega
   have hc2:(n:Int)≤(hi:Int):=by omega
   have HE:Hid (((some (n,r)).bind fun p:Nat × List UInt8=>if lo≤p.1∧p.1≤hi then some p else none)=some (n,r)):=by unfold Hid;simp [hc]
   rw [HE.out]
   clear h1 hc HE
   go_enter Tryz.func90,Tryz.ntmps90
   go_wp2_with (go_at_call 62;refine (HN.out).mono ?_;rintro e w1 ⟨rfl,hrd⟩)
   refine (must_any true w1 (hu.rd hrd hb)).mono ?_
   rintro e w2 ⟨rfl,hm⟩
   rw [if_pos rfl] at hm
   subst hm
   go_wp2_with fail
   go_ret
   exact ⟨rfl,hrd⟩
  ·have HE:Hid (((some (n,r)).bind fun p:Nat × List UInt8=>if lo≤p.1∧p.1≤hi then some p else none)=none):=by unfold Hid;simp [hc]
   rw [HE.out]
   clear h1 HE
   by_cases hc1:lo≤n
   ·have hc1':(lo:Int)≤(n:Int):=by omega
    have hc2:¬ (n:Int)≤(hi:Int):=by omega
    have hc3:(hi:Int)<(n:Int):=by omega
    have hd:decide (n≤hi)=false:=decide_eq_false (by omega)
    clear hc hc1
    go_enter Tryz.func90,Tryz.ntmps90
    go_wp2_with (go_at_call 62;refine (HN.out).mono ?_;rintro e w1 ⟨rfl,hrd⟩)
    refine (must_any false w1 (hu.rd hrd hb)).mono ?_
    rintro e w2 ⟨rfl,hm⟩
    rw [if_neg (by simp)] at hm
    obtain ⟨t,v,rfl⟩:=hm
    exact ⟨rfl,⟨t,v,rfl⟩,_,hrd⟩
   ·have hc2:¬ (lo:Int)≤(n:Int):=by omega
    have hc3:(n:Int)<(lo:Int):=by omega
    clear hc hc1
    go_enter Tryz.func90,Tryz.ntmps90
    go_wp2_with (go_at_call 62;refine (HN.out).mono ?_;rintro e w1 ⟨rfl,hrd⟩)
    refine (must_any false w1 (hu.rd hrd hb)).mono ?_
    rintro e w2 ⟨rfl,hm⟩
    rw [if_neg (by simp)] at hm
    obtain ⟨t,v,rfl⟩:=hm
    exact ⟨rfl,⟨t,v,rfl⟩,_,hrd⟩
set_option maxHeartbeats 800000 in
theorem above_any (b:Nat) (hb:NU≤b) (l:List UInt8) (hl:l.length≤1000000000) (p:Nat) (hp:p≤2147483647) (w:World) (hg:Gl w) (hu:Gu w) (hr:Rd b w w (bst l)) :
  Calls Tryz.prog 111 #[.pointer (some ⟨b,0,none⟩),.int .i64 (p:Int)] w fun e w' =>
   match rdB (p+1) 2147483647 l with
   | some (n,r)=>e=.returned (.int .i64 (n:Int))∧Rd b w w' (bst r)
   | none=>Broke b w e w':=by
 have HB:=hide (btw_any b hb l hl (p+1) 2147483647 (by omega) (by omega) w hg hu hr)
 cases h1:rdB (p+1) 2147483647 l with
 | none =>
  rw [h1] at HB
  go_enter Tryz.func111,Tryz.ntmps111
  go_wp2_with (go_at_call 90;refine (HB.out).mono ?_;rintro e w1 ⟨⟨t,v,rfl⟩,hrd⟩)
  exact ⟨rfl,⟨t,v,rfl⟩,hrd⟩
 | some q =>
  obtain ⟨n,r⟩:=q
  rw [h1] at HB
  go_enter Tryz.func111,Tryz.ntmps111
  go_wp2_with (go_at_call 90;refine (HB.out).mono ?_;rintro e w1 ⟨rfl,hrd⟩)
  go_ret
  exact ⟨rfl,hrd⟩
structure Kr (b:Nat) (w w':World) (l:List UInt8):Prop where
 kp:Kp (fun k=>k=b) w w'
 here:w'.heap[b]?=some (.cells #[.string (bst l)] 147 (0,0))
theorem Kr.rd {b:Nat} {w w':World} {l:List UInt8} (h:Kr b w w' l):Rd b w' w' (bst l):=Rd.refl h.here
theorem Kr.step {b:Nat} {w w' w'':World} {l r:List UInt8} (h:Kr b w w' l) (k:Rd b w' w'' (bst r)):Kr b w w'' r :=
 ⟨h.kp.trans ⟨k.os,k.tape,k.output,by rw [k.size];exact Nat.le_refl _,fun i _ hz=>k.block i (fun e=>hz (Or.inl e))⟩,k.here⟩
theorem Kr.after {b:Nat} {w w' w'':World} {l:List UInt8} (h:Kr b w w' l) (k:Below w'.heap.size w' w''):Kr b w w'' l :=
 ⟨h.kp.after k,(k.block b (blk_lt h.here)).trans h.here⟩
theorem Kr.refl {b:Nat} {w:World} {l:List UInt8} (h:w.heap[b]?=some (.cells #[.string (bst l)] 147 (0,0))):Kr b w w l:=⟨Kp.refl _ _,h⟩
theorem Kr.gl {b:Nat} {w w':World} {l:List UInt8} (h:Kr b w w' l) (hb:NU≤b) (hg:Gl w):Gl w':=by
 obtain ⟨⟨t0,v0,h0⟩,⟨t1,v1,h1⟩,h2⟩:=hg
 have hs:=h.kp.size
 unfold NU at hb
 refine ⟨⟨t0,v0,(World.cell?_of_block (a:=⟨2,0,none⟩) (h.kp.block _ (by show 2<_;omega) (by show ¬ 2=b;omega))).trans h0⟩,⟨t1,v1,(World.cell?_of_block (a:=⟨3,0,none⟩) (h.kp.block _ (by show 3<_;omega) (by show ¬ 3=b;omega))).trans h1⟩,by omega⟩
theorem cell_lt {w:World} {a:Addr} {x:Value} (h:w.cell? a=some x):a.block<w.heap.size:=by
 rcases Nat.lt_or_ge a.block w.heap.size with h' | h'
 ·exact h'
 ·simp [World.cell?,Array.getElem?_eq_none h'] at h
theorem Kr.gu {b:Nat} {w w':World} {l:List UInt8} (h:Kr b w w' l) (hb:NU≤b) (hu:Gu w):Gu w':=by
 obtain ⟨t,v,hc⟩:=hu
 unfold NU at hb
 exact ⟨t,v,(World.cell?_of_block (a:=⟨4,0,none⟩) (h.kp.block _ (cell_lt hc) (by show ¬ 4=b;omega))).trans hc⟩
def Bk (b:Nat) (w:World) (e:Ending) (w':World):Prop:=(∃ t v,e=.panicked [{ v:=.iface t v,recovered:=false }])∧Kp (fun k=>k=b) w w'
theorem Kr.broke {b:Nat} {w w' w'':World} {l:List UInt8} {e:Ending} (h:Kr b w w' l) (k:Broke b w' e w''):Bk b w e w'':=by
 obtain ⟨k1,s,k2⟩:=k
 exact ⟨k1,h.kp.trans ⟨k2.os,k2.tape,k2.output,by rw [k2.size];exact Nat.le_refl _,fun i _ hz=>k2.block i (fun e=>hz (Or.inl e))⟩⟩
theorem rdB_some {lo hi n:Nat} {l r:List UInt8} (h:rdB lo hi l=some (n,r)):lo≤n∧n≤hi∧r.length≤l.length:=by
 unfold rdB at h
 cases h1:rd1 l with
 | none=>rw [h1] at h;cases h
 | some p =>
  rw [h1] at h
  simp only [Option.bind_some] at h
  split at h
  ·rename_i hc
   cases h
   exact ⟨hc.1,hc.2,rd1_len h1⟩
  ·cases h
def rdPar:Nat→Nat→List (Nat × Nat)→List UInt8→Option (List (Nat × Nat) × List UInt8)
 | 0,_,acc,l=>some (acc,l)
 | k+1,p,acc,l=>(rdB (p+1) 2147483647 l).bind fun a=>(rdB 0 2147483647 a.2).bind fun g=>rdPar k a.1 (acc++[(a.1,g.1)]) g.2
def rdPars (l:List UInt8):Option (List (Nat × Nat) × List UInt8):=(rdB 0 2 l).bind fun k=>rdPar k.1 0 [] k.2
end Go.Proofs.YtgcedalggnmooabGreatDoor
namespace Go.Proofs.YtgcedalggnmooabGreatDoor
open Go.RowKit
theorem lflat_sn2:∀ (l:List (Nat × Nat)) (p:Nat × Nat),lflat (l++[p])=lflat l++[.int .i64 (p.1:Int),.int .i64 (p.2:Int)]
 | [],p=>rfl
 | q :: l,p=>by show _ :: _ :: lflat (l++[p])=_;rw [lflat_sn2 l p];rfl
theorem infoPar2:(Tryz.prog.info? 156).map (fun i=>(i.zero,i.size,i.bytes))=some (some (.agg #[.int .i64 0,.int .i64 0]),2,16):=by kernel_rfl
theorem tUPars2:Tryz.prog.underlying 151=some (.slice 156):=by kernel_rfl
def ParP (b:Nat) (w:World) (X:Option (List (Nat × Nat) × List UInt8)) (e:Ending) (w':World):Prop:=match X with
 | some (ps,r)=>(∃ v,e=.returned v∧w'.ownsRow w.heap.size 156 2 v ps.length (lflat ps))∧Kr b w w' r
 | none=>Bk b w e w'
set_option maxHeartbeats 3200000 in
theorem readPars_any (b:Nat) (hb:NU≤b) (l:List UInt8) (hl:l.length≤1000000000) (w:World) (hg:Gl w) (hu:Gu w) (hr:w.heap[b]?=some (.cells #[.string (bst l)] 147 (0,0))) :
  Calls Tryz.prog 128 #[.pointer (some ⟨b,0,none⟩)] w (ParP b w (rdPars l)):=by
 obtain ⟨i0,hi,hz0,hz1,hz2⟩:=info_parts infoPar2
 have HB:=hide (btw_any b hb l hl 0 2 (by omega) (by omega) w hg hu (Rd.refl hr))
 have HK0:=hide (Kr.refl hr)
 unfold rdPars
 cases h1:rdB 0 2 l with
 | none =>
  rw [h1] at HB
  go_enter Tryz.func128,Tryz.ntmps128
  go_wp2_with (go_at_call 90;refine (HB.out).mono ?_;rintro e w1 hbk;obtain ⟨t,v,rfl⟩:=hbk.1)
  exact ⟨rfl,HK0.out.broke hbk⟩
 | some p =>
  obtain ⟨n,r⟩:=p
  rw [h1] at HB
  obtain ⟨_,hn2,hrl⟩:=rdB_some h1
  show Calls _ _ _ _ (ParP b w (rdPar n 0 [] r))
  obtain ⟨X,HX⟩:∃ X,Hid (X=rdPar n 0 [] r):=⟨_,rfl⟩
  rw [← HX.out]
  clear h1
  go_enter Tryz.func128,Tryz.ntmps128
  go_wp2_with (go_at_call 90;refine (HB.out).mono ?_;rintro e w1 ⟨rfl,hrd⟩)
  have HK1:=hide (HK0.out.step hrd)
  clear HK0 HB hrd
  go_loopw [3,4,7] (fun pv nv ii wr=>∃ (k p:Nat) (acc:List (Nat × Nat)) (q:List UInt8),ii=.int .i64 k∧k≤n∧nv=.int .i64 (p:Int)∧p≤2147483647∧acc.length=k∧q.length≤1000000000∧wr.ownsRow w.heap.size 156 2 pv k (lflat acc)∧Kr b w wr q∧rdPar (n - k) p acc q=X) (fun _ _ ii _=>n - (intOf ii).toNat)
  case atStart=>exact ⟨0,0,[],r,rfl,by omega,rfl,by omega,rfl,by omega,World.ownsRow_nil _ _ _ _,HK1.out,HX.out.symm⟩
  case round =>
   clear HK1
   obtain ⟨k,p,acc,q,rfl,hk,rfl,hp,hal,hql,hown,hkr,hX⟩:=hrel
   obtain ⟨pa,pcap,hpv⟩:=own_shapeS hown
   subst hpv
   by_cases hlt:k<n
   ·have HA:=hide (above_any b hb q hql p hp wr (hkr.gl hb hg) (hkr.gu hb hu) hkr.rd)
    have HXE:Hid ((rdB (p+1) 2147483647 q).bind (fun a=>(rdB 0 2147483647 a.2).bind fun g=>rdPar (n - (k+1)) a.1 (acc++[(a.1,g.1)]) g.2)=X):=by
     unfold Hid;rw [← hX,show n - k=(n - (k+1))+1 by omega];rfl
    clear hX
    cases h1:rdB (p+1) 2147483647 q with
    | none =>
     rw [h1] at HA HXE
     have HXN:Hid (X=none):=by rw [← HXE.out];rfl
     rw [HXN.out]
     have HKR:=hide hkr
     clear hkr hown HXE h1
     go_wp2_with (go_at_call 111;refine (HA.out).mono ?_;rintro e w2 hbk;obtain ⟨t,v,rfl⟩:=hbk.1)
     exact ⟨rfl,HKR.out.broke hbk⟩
    | some a =>
     obtain ⟨m,q2⟩:=a
     rw [h1] at HA HXE
     obtain ⟨_,hm,hq2⟩:=rdB_some h1
     have HKR:=hide hkr
     have HOW:=hide hown
     clear hkr hown h1
     cases h2:rdB 0 2147483647 q2 with
     | none =>
      have HXN:Hid (X=none):=by rw [← HXE.out];show (rdB 0 2147483647 q2).bind _=none;rw [h2];rfl
      rw [HXN.out]
      go_wp2_with (go_at_call 111;refine (HA.out).mono ?_;rintro e w2 ⟨rfl,hrd2⟩)
      have hkr2:=HKR.out.step hrd2
      have HB2:=btw_any b hb q2 (by omega) 0 2147483647 (by omega) (by omega) w2 (hkr2.gl hb hg) (hkr2.gu hb hu) hkr2.rd
      rw [h2] at HB2
      refine HB2.mono ?_
      rintro e w3 hbk
      obtain ⟨t,v,rfl⟩:=hbk.1
      exact ⟨rfl,hkr2.broke hbk⟩
     | some a2 =>
      obtain ⟨gv,q3⟩:=a2
      obtain ⟨_,hgv,hq3⟩:=rdB_some h2
      have HX2:Hid (rdPar (n - (k+1)) m (acc++[(m,gv)]) q3=X):=by
       unfold Hid;rw [← HXE.out];show _=(rdB 0 2147483647 q2).bind _;rw [h2];rfl
      go_wp2_with (go_at_call 111;refine (HA.out).mono ?_;rintro e w2 ⟨rfl,hrd2⟩)
      have hkr2:=HKR.out.step hrd2
      have HB2:=btw_any b hb q2 (by omega) 0 2147483647 (by omega) (by omega) w2 (hkr2.gl hb hg) (hkr2.gu hb hu) hkr2.rd
      rw [h2] at HB2
      refine HB2.mono ?_
      rintro e w3 ⟨rfl,hrd3⟩
      have hkr3:=hkr2.step hrd3
      have hown3:w3.ownsRow w.heap.size 156 2 (.slice pa k pcap) k (lflat acc):=own_congr HOW.out (fun z hz=>by
       obtain ⟨cs,hcs⟩:=own_ty HOW.out hz
       have e1:=hrd2.block z (fun e=>ty_ne hcs HKR.out.here (by decide) e)
       have e2:=hrd3.block z (fun e=>ty_ne (e1.trans hcs) hkr2.here (by decide) e)
       exact e2.trans e1)
      have HK3:=hide hkr3
      have HO3:=hide hown3
      have hws:=hkr3.kp.size
      clear hkr3 hown3 hkr2 hrd2 hrd3 HB2 HKR HOW HA HXE h2
      go_wp2_with (at_builtin;refine wpList_append_own _ rfl _ _ 151 rfl w.heap.size 156 i0 (.agg #[.int .i64 0,.int .i64 0]) 2 16 tUPars2 hi hz0 hz1 hz2 rfl (by decide) _ k (lflat acc) rfl ((HO3.out.alloc _)) ⟨w3.heap.size,0,none⟩ 1 1 [.int .i64 (m:Int),.int .i64 (gv:Int)] rfl rfl ?c1 ?c2 ?c3 ?c4 ?c5 ?_)
      case c1=>intro j u hu;have:=cell_two_new w3 (.int .i64 (m:Int)) (.int .i64 (gv:Int)) 156 j u hu;simpa using this
      case c2=>intro u hu;simp at hu;rcases hu with rfl | rfl <;> rfl
      case c3=>unfold maxLen;omega
      case c4=>omega
      case c5=>simp;omega
      intro v4 w4 ho4 hg4 hn4
      obtain ⟨g4,c4,hv4,_,_⟩:=own_someS ho4 (by omega)
      subst hv4
      have HK4:Hid (Kr b w w4 q3):=by
       have h1:=HK3.out.after (al1 w3 (.cells #[.int .i64 (m:Int),.int .i64 (gv:Int)] 156))
       have hne:∀ z,(Value.slice pa k pcap).ownBlock=some z→z≠b:=fun z hz e=>by
        obtain ⟨cs,hcs⟩:=own_ty HO3.out hz
        exact ty_ne hcs HK3.out.here (by decide) e
       refine ⟨h1.kp.grown hg4 (fun z hz=>Or.inr (HO3.out.lt z hz).1),(hg4.block b (blk_lt h1.here) (fun e=>?_)).trans h1.here⟩
       exact hne b e.symm rfl
      have HO4:Hid (w4.ownsRow w.heap.size 156 2 (.slice (some ⟨g4,0,none⟩) (k+1) c4) (k+1) (lflat (acc++[(m,gv)]))):=by
       unfold Hid;rw [lflat_sn2];exact ho4
      clear ho4 hg4 hn4 HK3 HO3
      go_wp2_with fail
      go_roundw
      case rel=>exact ⟨k+1,m,acc++[(m,gv)],q3,by go_num,by omega,rfl,by omega,by simp [hal],by omega,HO4.out,HK4.out,HX2.out⟩
      case measure=>simp [intOf];omega
   ·have hkn:k=n:=by omega
    subst hkn
    have HXN:Hid (X=some (acc,q)):=by unfold Hid;rw [← hX,Nat.sub_self];rfl
    have HO:=hide hown
    clear hown hX
    go_wp2_with fail
    go_ret
    show ParP b w X _ _
    rw [HXN.out]
    exact ⟨⟨_,rfl,by rw [hal];exact HO.out⟩,hkr⟩
end Go.Proofs.YtgcedalggnmooabGreatDoor
namespace Go.Proofs.YtgcedalggnmooabGreatDoor
open Go.RowKit
def rdLot (num com:Nat) (l:List UInt8):Option (L × List UInt8) :=
 (rdB 1 2147483647 l).bind fun g=>(rdB 0 2147483647 g.2).bind fun x=>(rdB 1 com x.2).bind fun p=>(rdB 0 2147483647 p.2).bind fun f=>(rdB 0 2147483647 f.2).bind fun h=>(rdB 0 2147483647 h.2).bind fun s=>(rdB 0 2147483647 s.2).bind fun c=>(rdPars c.2).bind fun ps =>
  (if ps.1.length=0 then rd1 ps.2 else some ((ps.1.map Prod.snd).sum,ps.2)).bind fun gt =>
   if 1≤gt.1∧gt.1≤2147483647 then some (⟨num,g.1,x.1,p.1,gt.1,f.1,h.1,s.1,c.1,0,ps.1⟩,gt.2) else none
def LotP (b:Nat) (w:World) (X:Option (L × List UInt8)) (e:Ending) (w':World):Prop:=match X with
 | some (l,r)=>(∃ q pv,e=.returned (.pointer (some ⟨q,0,none⟩))∧w.heap.size≤q∧w'.heap[q]?=some (.cells (lotCells l pv) 153 (0,0))∧w'.ownsRow w.heap.size 156 2 pv l.par.length (lflat l.par))∧Kr b w w' r
 | none=>Bk b w e w'
theorem Kr.bk {b:Nat} {w w' w'':World} {l:List UInt8} {e:Ending} (h:Kr b w w' l) (k:Bk b w' e w''):Bk b w e w'':=⟨k.1,h.kp.trans (k.2.mono (fun _ q=>Or.inl q))⟩
theorem Kr.trans {b:Nat} {w w' w'':World} {l r:List UInt8} (h:Kr b w w' l) (k:Kr b w' w'' r):Kr b w w'' r:=⟨h.kp.trans (k.kp.mono (fun _ q=>Or.inl q)),k.here⟩
theorem own_lower {w:World} {B B':Nat} {e:TypeId} {size:Nat} {v:Value} {n:Nat} {xs:List Value} (h:w.ownsRow B e size v n xs) (hb:B'≤B):w.ownsRow B' e size v n xs:=by
 refine ⟨h.1,?_⟩
 rcases h.2 with h | ⟨g,cap,cur,h1,h2,h3⟩
 ·exact Or.inl h
 ·exact Or.inr ⟨g,cap,cur,h1,Nat.le_trans hb h2,h3⟩
theorem rdPar_facts:∀ {k p:Nat} {acc ps:List (Nat × Nat)} {l r:List UInt8},rdPar k p acc l=some (ps,r)→(∀ q ∈ acc,q.1≤2147483647∧q.2≤2147483647)→ps.length=acc.length+k∧(∀ q ∈ ps,q.1≤2147483647∧q.2≤2147483647)∧r.length≤l.length
 | 0,p,acc,ps,l,r,h,ha=>by simp only [rdPar,Option.some.injEq,Prod.mk.injEq] at h;obtain ⟨rfl,rfl⟩:=h;exact ⟨by omega,ha,Nat.le_refl _⟩
 | k+1,p,acc,ps,l,r,h,ha=>by
  rw [rdPar] at h
  cases h1:rdB (p+1) 2147483647 l with
  | none=>rw [h1] at h;cases h
  | some a =>
   obtain ⟨m,q⟩:=a
   rw [h1] at h
   simp only [Option.bind_some] at h
   cases h2:rdB 0 2147483647 q with
   | none=>rw [h2] at h;cases h
   | some a2 =>
    obtain ⟨g,q2⟩:=a2
    rw [h2] at h
    simp only [Option.bind_some] at h
    obtain ⟨_,x1,x2⟩:=rdB_some h1
    obtain ⟨_,y1,y2⟩:=rdB_some h2
    obtain ⟨z1,z2,z3⟩:=rdPar_facts h (fun q hq=>by
     rcases List.mem_append.1 hq with hq | hq
     ·exact ha q hq
     ·simp at hq;subst hq;exact ⟨x1,y1⟩)
    refine ⟨by rw [z1,List.length_append,List.length_singleton];omega,z2,by omega⟩
theorem rdPars_facts {ps:List (Nat × Nat)} {l r:List UInt8} (h:rdPars l=some (ps,r)):ps.length≤2∧(∀ q ∈ ps,q.1≤2147483647∧q.2≤2147483647)∧r.length≤l.length:=by
 unfold rdPars at h
 cases h1:rdB 0 2 l with
 | none=>rw [h1] at h;cases h
 | some a =>
  obtain ⟨k,q⟩:=a
  rw [h1] at h
  simp only [Option.bind_some] at h
  obtain ⟨_,x1,x2⟩:=rdB_some h1
  obtain ⟨z1,z2,z3⟩:=rdPar_facts h (fun q hq=>by simp at hq)
  exact ⟨by rw [z1];simp;omega,z2,by omega⟩
theorem sum_le:∀ (l:List (Nat × Nat)),(∀ q ∈ l,q.2≤2147483647)→(l.map Prod.snd).sum≤l.length * 2147483647
 | [],_=>by simp
 | q :: l,h=>by
  have h1:=sum_le l (fun x hx=>h x (by simp [hx]))
  have h2:=h q (by simp)
  simp only [List.map_cons,List.sum_cons,List.length_cons]
  omega
theorem lflat_at2:∀ (l:List (Nat × Nat)) (i:Nat),i<l.length→(lflat l)[i * 2]?=some (.int .i64 ((l.getD i (0,0)).1:Int))∧(lflat l)[i * 2+1]?=some (.int .i64 ((l.getD i (0,0)).2:Int))
 | [],i,h=>by simp at h
 | q :: l,0,h=>⟨rfl,rfl⟩
 | q :: l,i+1,h=>by
  have ih:=lflat_at2 l i (by simpa using h)
  rw [show (i+1) * 2=i * 2+2 by omega]
  simpa [lflat] using ih
theorem pcell {w:World} {base n:Nat} {a:Option Addr} {cap:Nat} {l:List (Nat × Nat)} (h:w.ownsRow base 156 2 (.slice a n cap) n (lflat l)) (k:Nat) (hk:k<l.length) (hn:n=l.length):∃ G,a=some ⟨G,0,none⟩∧G<w.heap.size∧w.cell? ⟨G,k * 2,none⟩=some (.int .i64 ((l.getD k (0,0)).1:Int))∧w.cell? ⟨G,k * 2+1,none⟩=some (.int .i64 ((l.getD k (0,0)).2:Int)):=by
 obtain ⟨G,cap',hv,_,hlt⟩:=own_someS h (by omega)
 cases hv
 have q:=lflat_at2 l k hk
 refine ⟨G,rfl,hlt,?_,?_⟩
 ·rw [h.cellAt (k * 2) (by omega)];exact q.1
 ·rw [h.cellAt (k * 2+1) (by omega)];exact q.2
set_option maxHeartbeats 6400000 in
theorem readLot_any (b:Nat) (hb:NU≤b) (num com:Nat) (hnum:num≤2147483647) (hcom:com≤30) (l:List UInt8) (hl:l.length≤1000000000) (w:World) (hg:Gl w) (hu:Gu w) (hr:w.heap[b]?=some (.cells #[.string (bst l)] 147 (0,0))) :
  Calls Tryz.prog 112 #[.pointer (some ⟨b,0,none⟩),.int .i64 (num:Int),.int .i64 (com:Int)] w (LotP b w (rdLot num com l)):=by
 obtain ⟨X,HX⟩:∃ X,Hid (X=rdLot num com l):=⟨_,rfl⟩
 rw [← HX.out]
 have k0:=Kr.refl hr
 go_enter Tryz.func112,Tryz.ntmps112
 go_wp2_with fail
 refine (btw_any b hb l (by omega) 1 2147483647 (by omega) (by omega) w (k0.gl hb hg) (k0.gu hb hu) k0.rd).mono ?_
 intro e w1 hm
 rcases h1:rdB 1 2147483647 l with _ | ⟨n1,r1⟩
 ·rw [h1] at hm
  obtain ⟨t,v,rfl⟩:=hm.1
  refine ⟨rfl,?_⟩
  show LotP b w X _ _
  rw [show X=none by rw [HX.out];unfold rdLot;simp only [h1,Option.bind_some,Option.bind_none]]
  exact k0.broke hm
 rw [h1] at hm
 obtain ⟨rfl,hd1⟩:=hm
 have k1:=k0.step hd1
 obtain ⟨a1,u1,v1⟩:=rdB_some h1
 clear hd1
 go_wp2_with fail
 refine (btw_any b hb r1 (by omega) 0 2147483647 (by omega) (by omega) w1 (k1.gl hb hg) (k1.gu hb hu) k1.rd).mono ?_
 intro e w2 hm
 rcases h2:rdB 0 2147483647 r1 with _ | ⟨n2,r2⟩
 ·rw [h2] at hm
  obtain ⟨t,v,rfl⟩:=hm.1
  refine ⟨rfl,?_⟩
  show LotP b w X _ _
  rw [show X=none by rw [HX.out];unfold rdLot;simp only [h1,h2,Option.bind_some,Option.bind_none]]
  exact k1.broke hm
 rw [h2] at hm
 obtain ⟨rfl,hd2⟩:=hm
 have k2:=k1.step hd2
 obtain ⟨a2,u2,v2⟩:=rdB_some h2
 clear hd2
 go_wp2_with fail
 refine (btw_any b hb r2 (by omega) 1 com (by omega) (by omega) w2 (k2.gl hb hg) (k2.gu hb hu) k2.rd).mono ?_
 intro e w3 hm
 rcases h3:rdB 1 com r2 with _ | ⟨n3,r3⟩
 ·rw [h3] at hm
  obtain ⟨t,v,rfl⟩:=hm.1
  refine ⟨rfl,?_⟩
  show LotP b w X _ _
  rw [show X=none by rw [HX.out];unfold rdLot;simp only [h1,h2,h3,Option.bind_some,Option.bind_none]]
  exact k2.broke hm
 rw [h3] at hm
 obtain ⟨rfl,hd3⟩:=hm
 have k3:=k2.step hd3
 obtain ⟨a3,u3,v3⟩:=rdB_some h3
 clear hd3
 go_wp2_with fail
 refine (btw_any b hb r3 (by omega) 0 2147483647 (by omega) (by omega) w3 (k3.gl hb hg) (k3.gu hb hu) k3.rd).mono ?_
 intro e w4 hm
 rcases h4:rdB 0 2147483647 r3 with _ | ⟨n4,r4⟩
 ·rw [h4] at hm
  obtain ⟨t,v,rfl⟩:=hm.1
  refine ⟨rfl,?_⟩
  show LotP b w X _ _
  rw [show X=none by rw [HX.out];unfold rdLot;simp only [h1,h2,h3,h4,Option.bind_some,Option.bind_none]]
  exact k3.broke hm
 rw [h4] at hm
 obtain ⟨rfl,hd4⟩:=hm
 have k4:=k3.step hd4
 obtain ⟨a4,u4,v4⟩:=rdB_some h4
 clear hd4
 go_wp2_with fail
 refine (btw_any b hb r4 (by omega) 0 2147483647 (by omega) (by omega) w4 (k4.gl hb hg) (k4.gu hb hu) k4.rd).mono ?_
 intro e w5 hm
 rcases h5:rdB 0 2147483647 r4 with _ | ⟨n5,r5⟩
 ·rw [h5] at hm
  obtain ⟨t,v,rfl⟩:=hm.1
  refine ⟨rfl,?_⟩
  show LotP b w X _ _
  rw [show X=none by rw [HX.out];unfold rdLot;simp only [h1,h2,h3,h4,h5,Option.bind_some,Option.bind_none]]
  exact k4.broke hm
 rw [h5] at hm
 obtain ⟨rfl,hd5⟩:=hm
 have k5:=k4.step hd5
 obtain ⟨a5,u5,v5⟩:=rdB_some h5
 clear hd5
 go_wp2_with fail
 refine (btw_any b hb r5 (by omega) 0 2147483647 (by omega) (by omega) w5 (k5.gl hb hg) (k5.gu hb hu) k5.rd).mono ?_
 intro e w6 hm
 rcases h6:rdB 0 2147483647 r5 with _ | ⟨n6,r6⟩
 ·rw [h6] at hm
  obtain ⟨t,v,rfl⟩:=hm.1
  refine ⟨rfl,?_⟩
  show LotP b w X _ _
  rw [show X=none by rw [HX.out];unfold rdLot;simp only [h1,h2,h3,h4,h5,h6,Option.bind_some,Option.bind_none]]
  exact k5.broke hm
 rw [h6] at hm
 obtain ⟨rfl,hd6⟩:=hm
 have k6:=k5.step hd6
 obtain ⟨a6,u6,v6⟩:=rdB_some h6
 clear hd6
 go_wp2_with fail
 refine (btw_any b hb r6 (by omega) 0 2147483647 (by omega) (by omega) w6 (k6.gl hb hg) (k6.gu hb hu) k6.rd).mono ?_
 intro e w7 hm
 rcases h7:rdB 0 2147483647 r6 with _ | ⟨n7,r7⟩
 ·rw [h7] at hm
  obtain ⟨t,v,rfl⟩:=hm.1
  refine ⟨rfl,?_⟩
  show LotP b w X _ _
  rw [show X=none by rw [HX.out];unfold rdLot;simp only [h1,h2,h3,h4,h5,h6,h7,Option.bind_some,Option.bind_none]]
  exact k6.broke hm
 rw [h7] at hm
 obtain ⟨rfl,hd7⟩:=hm
 have k7:=k6.step hd7
 obtain ⟨a7,u7,v7⟩:=rdB_some h7
 clear hd7
 go_wp2_with fail
 refine (readPars_any b hb r7 (by omega) w7 (k7.gl hb hg) (k7.gu hb hu) k7.here).mono ?_
 intro e w8 hm
 rcases h8:rdPars r7 with _ | ⟨ps,r8⟩
 ·rw [h8] at hm
  have hm':Bk b w7 e w8:=hm
  obtain ⟨t,v,rfl⟩:=hm'.1
  refine ⟨rfl,?_⟩
  show LotP b w X _ _
  rw [show X=none by rw [HX.out];unfold rdLot;simp only [h1,h2,h3,h4,h5,h6,h7,h8,Option.bind_some,Option.bind_none]]
  exact k7.bk hm'
 rw [h8] at hm
 obtain ⟨⟨pv,rfl,hpo⟩,hk8⟩:=hm
 have k8:=k7.trans hk8
 have HXE:Hid (X=(if ps.length=0 then rd1 r8 else some ((ps.map Prod.snd).sum,r8)).bind fun gt=>if 1≤gt.1∧gt.1≤2147483647 then some (⟨num,n1,n2,n3,gt.1,n4,n5,n6,n7,0,ps⟩,gt.2) else none):=by
  unfold Hid;rw [HX.out];unfold rdLot;simp only [h1,h2,h3,h4,h5,h6,h7,h8,Option.bind_some]
 have hpf:=rdPars_facts h8
 obtain ⟨pa,pcap,hpe⟩:=own_shapeS hpo
 subst hpe
 have HPO:=hide (own_lower hpo k7.kp.size)
 have K8:=hide k8
 clear h1 h2 h3 h4 h5 h6 h7 h8 k0 k1 k2 k3 k4 k5 k6 k7 hk8 k8 hpo HX
 obtain ⟨qb,hqb⟩:∃ qb,qb=w8.heap.size:=⟨_,rfl⟩
 have HQB:=hide hqb
 have hw8:=K8.out.kp.size
 by_cases hp0:ps.length=0
 ·rw [hp0] at HPO ⊢
  have ha:=al1 w8 (.cells #[.int .i64 (num:Int),.int .i64 (n1:Int),.int .i64 (n2:Int),.int .i64 (n3:Int),.slice pa 0 pcap,.int .i64 0,.int .i64 (n4:Int),.int .i64 (n5:Int),.int .i64 (n6:Int),.int .i64 (n7:Int),.int .i64 0] 153)
  have hlb:=heap_alloc_new w8 (.cells #[.int .i64 (num:Int),.int .i64 (n1:Int),.int .i64 (n2:Int),.int .i64 (n3:Int),.slice pa 0 pcap,.int .i64 0,.int .i64 (n4:Int),.int .i64 (n5:Int),.int .i64 (n6:Int),.int .i64 (n7:Int),.int .i64 0] 153)
  have k9:=K8.out.after ha
  have HN:=hide (rdNum_any b hb r8 (by omega) _ (k9.gl hb hg) k9.rd)
  have HPO9:=hide (own_below HPO.out ha)
  have HLB:=hide hlb
  have K9:=hide k9
  rw [if_pos hp0] at HXE
  clear K8 HPO ha hlb k9 hqb
  go_wp2_with fail
  refine (HN.out).mono ?_
  intro e w9 hm
  rcases h9:rd1 r8 with _ | ⟨gt,r9⟩
  ·rw [h9] at hm
   obtain ⟨t,v,rfl⟩:=hm.1
   refine ⟨rfl,?_⟩
   show LotP b w X _ _
   rw [show X=none by rw [HXE.out,h9];rfl]
   exact K9.out.broke hm
  rw [h9] at hm
  obtain ⟨rfl,hd9⟩:=hm
  have HXF:Hid (X=if 1≤gt∧gt≤2147483647 then some (⟨num,n1,n2,n3,gt,n4,n5,n6,n7,0,ps⟩,r9) else none):=by unfold Hid;rw [HXE.out,h9];rfl
  have k10:=K9.out.step hd9
  have hbq:b≠w8.heap.size:=fun e=>by
   have h1:=K9.out.here
   rw [e,HLB.out] at h1;simp at h1
  have hlot9:=(hd9.block w8.heap.size (Ne.symm hbq)).trans HLB.out
  have hpo9:w9.ownsRow w.heap.size 156 2 (.slice pa 0 pcap) 0 (lflat ps):=own_congr HPO9.out (fun z hz=>hd9.block z (fun e=>by
   obtain ⟨cs,hcs⟩:=own_ty HPO9.out hz
   exact ty_ne hcs K9.out.here (by decide) e))
  rw [← HQB.out] at hlot9 hbq ⊢
  have x4:w9.cell? ⟨qb,4,none⟩=some (.slice pa 0 pcap):=by rw [blk_cell hlot9];rfl
  have x5:w9.cell? ⟨qb,5,none⟩=some (.int .i64 0):=by rw [blk_cell hlot9];rfl
  have f5:=blk_free hlot9 5
  have hself:=heap_setCell_same w9 qb 5 _ 153 (.int .i64 (gt:Int)) hlot9
  have HLZ:Hid ((w9.setCell ⟨qb,5,none⟩ (.int .i64 (gt:Int))).heap[qb]?=some (.cells (lotCells ⟨num,n1,n2,n3,gt,n4,n5,n6,n7,0,ps⟩ (.slice pa 0 pcap)) 153 (0,0))):=hself
  have HKZ:Hid (Kr b w (w9.setCell ⟨qb,5,none⟩ (.int .i64 (gt:Int))) r9):=⟨k10.kp.setCell (p:=⟨qb,5,none⟩) (Or.inr (by show w.heap.size≤qb;rw [HQB.out];exact hw8)) _,(Below.heap_setCell _ _ _ _ hbq).trans k10.here⟩
  have HPZ:Hid ((w9.setCell ⟨qb,5,none⟩ (.int .i64 (gt:Int))).ownsRow w.heap.size 156 2 (.slice pa 0 pcap) 0 (lflat ps)):=own_congr hpo9 (fun z hz=>Below.heap_setCell _ _ _ _ (fun e=>by
   obtain ⟨cs,hcs⟩:=own_ty hpo9 hz
   exact ty_ne hcs hlot9 (by decide) e))
  have y5:(w9.setCell ⟨qb,5,none⟩ (.int .i64 (gt:Int))).cell? ⟨qb,5,none⟩=some (.int .i64 (gt:Int)):=by rw [blk_cell HLZ.out];rfl
  have hgt:gt<9223372036854775808:=by
   unfold rd1 at h9
   split at h9
   ·cases h9
   ·cases h9;exact Pl.fst_lt _
  clear hself K9 HPO9 HLB HN hd9 k10 hpo9 hlot9 h9
  go_wp2_with fail
  have HPF:Hid ((w9.setCell ⟨qb,5,none⟩ (.int .i64 (gt:Int))).ownsRow w.heap.size 156 2 (.slice pa 0 pcap) ps.length (lflat ps)):=by unfold Hid;rw [hp0];exact HPZ.out
  refine wp_loop_rounds 1 ?_
  rw [rounds_succ]
  by_cases hin:1≤gt∧gt≤2147483647
  ·have HXS:Hid (X=some (⟨num,n1,n2,n3,gt,n4,n5,n6,n7,0,ps⟩,r9)):=by unfold Hid;rw [HXF.out,if_pos hin]
   have i1:(1:Int)≤((gt:Nat):Int):=by omega
   have i2:((gt:Nat):Int)≤2147483647:=by omega
   have i3:1≤gt:=hin.1
   have i4:gt≤2147483647:=hin.2
   clear hin
   go_wp2_with fail
   refine (must_any true _ (HKZ.out.gu hb hu)).mono ?_
   rintro e wz ⟨rfl,hm⟩
   rw [if_pos rfl] at hm
   subst hm
   go_wp2_with fail
   go_ret
   show LotP b w X _ _
   rw [HXS.out]
   exact ⟨⟨qb,_,rfl,by rw [HQB.out];exact hw8,HLZ.out,HPF.out⟩,HKZ.out⟩
  ·have HXN:Hid (X=none):=by unfold Hid;rw [HXF.out,if_neg hin]
   by_cases g1:1≤gt
   ·have i1:(1:Int)≤((gt:Nat):Int):=by omega
    have i2:¬ ((gt:Nat):Int)≤2147483647:=by omega
    have i3:decide (gt≤2147483647)=false:=decide_eq_false (by omega)
    have i4:(2147483647:Int)<((gt:Nat):Int):=by omega
    clear hin
    go_wp2_with fail
    refine (must_any false _ (HKZ.out.gu hb hu)).mono ?_
    rintro e wz ⟨rfl,hm⟩
    rw [if_neg (by simp)] at hm
    obtain ⟨t,v,rfl⟩:=hm
    refine ⟨rfl,?_⟩
    show LotP b w X _ _
    rw [HXN.out]
    exact ⟨⟨t,v,rfl⟩,HKZ.out.kp⟩
   ·have i1:((gt:Nat):Int)<1:=by omega
    clear hin g1
    go_wp2_with fail
    refine (must_any false _ (HKZ.out.gu hb hu)).mono ?_
    rintro e wz ⟨rfl,hm⟩
    rw [if_neg (by simp)] at hm
    obtain ⟨t,v,rfl⟩:=hm
    refine ⟨rfl,?_⟩
    show LotP b w X _ _
    rw [HXN.out]
    exact ⟨⟨t,v,rfl⟩,HKZ.out.kp⟩
 ·rw [if_neg hp0] at HXE
  obtain ⟨np,hnp⟩:∃ np,np=ps.length:=⟨_,rfl⟩
  have HNP:=hide hnp
  rw [← hnp] at hp0 HPO hpf ⊢
  have ha:=al1 w8 (.cells #[.int .i64 (num:Int),.int .i64 (n1:Int),.int .i64 (n2:Int),.int .i64 (n3:Int),.slice pa np pcap,.int .i64 0,.int .i64 (n4:Int),.int .i64 (n5:Int),.int .i64 (n6:Int),.int .i64 (n7:Int),.int .i64 0] 153)
  have hlb:=heap_alloc_new w8 (.cells #[.int .i64 (num:Int),.int .i64 (n1:Int),.int .i64 (n2:Int),.int .i64 (n3:Int),.slice pa np pcap,.int .i64 0,.int .i64 (n4:Int),.int .i64 (n5:Int),.int .i64 (n6:Int),.int .i64 (n7:Int),.int .i64 0] 153)
  have K9:=hide (K8.out.after ha)
  have HPO9:=hide (own_below HPO.out ha)
  have HLB:=hide hlb
  have hnpz:¬ ((np:Int) == 0)=true:=by simp;omega
  have hbq:b≠w8.heap.size:=fun e=>by
   have h1:=K9.out.here
   rw [e,hlb] at h1;simp at h1
  rw [← HQB.out] at HLB hbq
  clear K8 HPO ha hlb hnp hqb
  go_wp2_with fail
  rw [← HQB.out]
  go_loopw [9,46] (fun _ ii wr=>∃ k:Nat,ii=.int .i64 k∧k≤np∧wr.heap[qb]?=some (.cells (lotCells ⟨num,n1,n2,n3,((ps.take k).map Prod.snd).sum,n4,n5,n6,n7,0,ps⟩ (.slice pa np pcap)) 153 (0,0))∧wr.ownsRow w.heap.size 156 2 (.slice pa np pcap) np (lflat ps)∧Kr b w wr r8) (fun _ ii _=>np - (intOf ii).toNat)
  case atStart=>exact ⟨0,rfl,by omega,HLB.out,HPO9.out,K9.out⟩
  case round =>
   clear HLB HPO9 K9
   obtain ⟨k,rfl,hk,hlot,hpo,hkr⟩:=hrel
   by_cases hlt:k<np
   ·obtain ⟨G,rfl,hGlt,g1,g2⟩:=pcell hpo k (by rw [← HNP.out];exact hlt) HNP.out
    have hpm:ps.getD k (0,0) ∈ ps:=by rw [HNP.out] at hlt;simp [List.getD_eq_getElem?_getD,hlt]
    have hx2:=(hpf.2.1 _ hpm).2
    have hsl:=sum_le (ps.take k) (fun q hq=>(hpf.2.1 q (List.mem_of_mem_take hq)).2)
    have htl:(ps.take k).length≤2:=Nat.le_trans (List.length_take_le _ _) (by omega)
    have HSS:Hid (((ps.take (k+1)).map Prod.snd).sum=((ps.take k).map Prod.snd).sum+(ps.getD k (0,0)).2):=by
     rw [HNP.out] at hlt
     unfold Hid;rw [List.take_succ_eq_append_getElem hlt,List.map_append,List.sum_append];simp only [List.getD_eq_getElem?_getD,List.getElem?_eq_getElem hlt,Option.getD_some,List.map_cons,List.map_nil,List.sum_cons,List.sum_nil,Nat.add_zero]
    generalize ((ps.take k).map Prod.snd).sum=sk at *
    generalize ps.getD k (0,0)=x at *
    obtain ⟨x1,x2⟩:=x
    simp only at g1 g2 hx2 HSS
    have hB:=al1 wr (.cells #[.int .i64 (x1:Int),.int .i64 (x2:Int)] 156)
    have hlotB:=(hB.block qb (blk_lt hlot)).trans hlot
    have z5:(wr.alloc (.cells #[.int .i64 (x1:Int),.int .i64 (x2:Int)] 156)).cell? ⟨qb,5,none⟩=some (.int .i64 (sk:Int)):=by rw [blk_cell hlotB];rfl
    have f5:=blk_free hlotB 5
    have hsk:sk≤4294967294:=by omega
    have hsum:((sk:Int)+(x2:Int))=((sk+x2:Nat):Int):=by omega
    have HLN:Hid (((wr.alloc (.cells #[.int .i64 (x1:Int),.int .i64 (x2:Int)] 156)).setCell ⟨qb,5,none⟩ (.int .i64 ((sk:Int)+(x2:Int)))).heap[qb]?=some (.cells (lotCells ⟨num,n1,n2,n3,sk+x2,n4,n5,n6,n7,0,ps⟩ (.slice (some ⟨G,0,none⟩) np pcap)) 153 (0,0))):=by
     rw [hsum];exact heap_setCell_same _ qb 5 _ 153 (.int .i64 ((sk+x2:Nat):Int)) hlotB
    have HPN:Hid (((wr.alloc (.cells #[.int .i64 (x1:Int),.int .i64 (x2:Int)] 156)).setCell ⟨qb,5,none⟩ (.int .i64 ((sk:Int)+(x2:Int)))).ownsRow w.heap.size 156 2 (.slice (some ⟨G,0,none⟩) np pcap) np (lflat ps)):=own_congr (own_below hpo hB) (fun z hz=>Below.heap_setCell _ _ _ _ (fun e=>by
     obtain ⟨cs,hcs⟩:=own_ty (own_below hpo hB) hz
     exact ty_ne hcs hlotB (by decide) e))
    have HKN:Hid (Kr b w ((wr.alloc (.cells #[.int .i64 (x1:Int),.int .i64 (x2:Int)] 156)).setCell ⟨qb,5,none⟩ (.int .i64 ((sk:Int)+(x2:Int)))) r8):=by
     have k1:=hkr.after hB
     exact ⟨k1.kp.setCell (p:=⟨qb,5,none⟩) (Or.inr (by show w.heap.size≤qb;rw [HQB.out];exact hw8)) _,(Below.heap_setCell _ _ _ _ hbq).trans k1.here⟩
    have hqlt:=blk_lt hlot
    have hbox:=heap_alloc_new wr (.cells #[.int .i64 (x1:Int),.int .i64 (x2:Int)] 156)
    have d1:(wr.alloc (.cells #[.int .i64 (x1:Int),.int .i64 (x2:Int)] 156)).cell? ⟨wr.heap.size,1,none⟩=some (.int .i64 (x2:Int)):=by rw [blk_cell hbox];rfl
    clear hlot hpo hkr hlotB hB hpm hsl htl hsum hbox
    go_wp2_with fail
    generalize (wr.alloc (.cells #[.int .i64 (x1:Int),.int .i64 (x2:Int)] 156))=wb at *
    go_region
    go_wp2_with fail
    go_roundw
    case rel=>exact ⟨k+1,by go_num,by omega,by rw [HSS.out];exact ((Below.refl _ _).drew.block qb (blk_lt HLN.out)).trans HLN.out,own_below HPN.out ((Below.refl _ _).drew),HKN.out.after ((Below.refl _ _).drew)⟩
    case measure=>simp [intOf];omega
   ·have hkn:k=np:=by omega
    subst hkn
    have hst:ps.take k=ps:=by rw [HNP.out];exact List.take_length
    rw [hst] at hlot
    obtain ⟨gt,hgt⟩:∃ gt,gt=(ps.map Prod.snd).sum:=⟨_,rfl⟩
    have hgb:gt≤4294967294:=by
     have h1:=sum_le ps (fun q hq=>(hpf.2.1 q hq).2)
     have h2:ps.length≤2:=by rw [← HNP.out];exact hpf.1
     rw [hgt];omega
    have HXF:Hid (X=if 1≤gt∧gt≤2147483647 then some (⟨num,n1,n2,n3,gt,n4,n5,n6,n7,0,ps⟩,r8) else none):=by unfold Hid;rw [HXE.out,hgt];rfl
    rw [← hgt] at hlot
    have HLZ:=hide hlot
    have HKZ:=hide hkr
    have HPF:Hid (wr.ownsRow w.heap.size 156 2 (.slice pa k pcap) ps.length (lflat ps)):=by unfold Hid;rw [← HNP.out];exact hpo
    have y5:wr.cell? ⟨qb,5,none⟩=some (.int .i64 (gt:Int)):=by rw [blk_cell hlot];rfl
    clear hlot hpo hkr hst hgt hlt
    by_cases hin:1≤gt∧gt≤2147483647
    ·have HXS:Hid (X=some (⟨num,n1,n2,n3,gt,n4,n5,n6,n7,0,ps⟩,r8)):=by unfold Hid;rw [HXF.out,if_pos hin]
     have i1:(1:Int)≤((gt:Nat):Int):=by omega
     have i2:((gt:Nat):Int)≤2147483647:=by omega
     have i3:1≤gt:=hin.1
     have i4:gt≤2147483647:=hin.2
     clear hin
     go_wp2_with fail
     refine (must_any true _ (HKZ.out.gu hb hu)).mono ?_
     rintro e wz ⟨rfl,hm⟩
     rw [if_pos rfl] at hm
     subst hm
     go_wp2_with fail
     go_ret
     show LotP b w X _ _
     rw [HXS.out]
     exact ⟨⟨qb,_,rfl,by rw [HQB.out];exact hw8,HLZ.out,HPF.out⟩,HKZ.out⟩
    ·have HXN:Hid (X=none):=by unfold Hid;rw [HXF.out,if_neg hin]
     by_cases g1:1≤gt
     ·have i1:(1:Int)≤((gt:Nat):Int):=by omega
      have i2:¬ ((gt:Nat):Int)≤2147483647:=by omega
      have i3:decide (gt≤2147483647)=false:=decide_eq_false (by omega)
      have i4:(2147483647:Int)<((gt:Nat):Int):=by omega
      clear hin
      go_wp2_with fail
      refine (must_any false _ (HKZ.out.gu hb hu)).mono ?_
      rintro e wz ⟨rfl,hm⟩
      rw [if_neg (by simp)] at hm
      obtain ⟨t,v,rfl⟩:=hm
      refine ⟨rfl,?_⟩
      show LotP b w X _ _
      rw [HXN.out]
      exact ⟨⟨t,v,rfl⟩,HKZ.out.kp⟩
     ·have i1:((gt:Nat):Int)<1:=by omega
      clear hin g1
      go_wp2_with fail
      refine (must_any false _ (HKZ.out.gu hb hu)).mono ?_
      rintro e wz ⟨rfl,hm⟩
      rw [if_neg (by simp)] at hm
      obtain ⟨t,v,rfl⟩:=hm
      refine ⟨rfl,?_⟩
      show LotP b w X _ _
      rw [HXN.out]
      exact ⟨⟨t,v,rfl⟩,HKZ.out.kp⟩
end Go.Proofs.YtgcedalggnmooabGreatDoor
