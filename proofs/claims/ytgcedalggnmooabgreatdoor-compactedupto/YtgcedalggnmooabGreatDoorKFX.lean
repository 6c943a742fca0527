import Derived.Test.YtgcedalggnmooabGreatDoorKSX
import Derived.Deep.Slices
set_option linter.unusedSimpArgs false
set_option linter.unusedVariables false
set_option maxRecDepth 100000
namespace Go.Proofs.YtgcedalggnmooabGreatDoor
open Go.RowKit
def sNil:Sv:=⟨0,[],[],[],[]⟩
theorem heap_alloc_newK (w:World) (o:Obj) (k:Nat) (h:k=w.heap.size):(w.alloc o).heap[k]?=some o:=by
 subst h;exact heap_alloc_new w o
def newW (w:World):World :=
 (((((w.alloc (.map #[] 0)).alloc (.map #[] 0)).alloc (.map #[] 0)).alloc (.cells #[.int .i64 0,.slice none 0 0,.map (some w.heap.size),.map (some (w.heap.size+1)),.map (some (w.heap.size+1+1))] 80)).alloc (.cells #[.pointer (some ⟨w.heap.size+1+1+1,0,none⟩),.slice none 0 0] 53))
theorem new_kv (w:World) (hg:Gl w):Kv w.heap.size w (newW w) (fun k=>w.heap.size≤k∧k≤w.heap.size+4) (w.heap.size+1+1+1+1) sNil:=by
 have hb:Below w.heap.size w (newW w):=by
  unfold newW
  exact (((((Below.refl _ _).alloc (Nat.le_refl _) _).alloc (by simp) _).alloc (by first | (simp;done) | (simp;omega)) _).alloc (by first | (simp;done) | (simp;omega)) _).alloc (by first | (simp;done) | (simp;omega)) _
 have hsz:(newW w).heap.size=w.heap.size+5:=by unfold newW;simp
 have b0:(newW w).heap[w.heap.size]?=some (.map #[] 0):=by
  unfold newW
  exact alloc_old (alloc_old (alloc_old (alloc_old (heap_alloc_new w _) (by first | (simp;done) | (simp;omega))) (by first | (simp;done) | (simp;omega))) (by first | (simp;done) | (simp;omega))) (by first | (simp;done) | (simp;omega))
 have b1:(newW w).heap[w.heap.size+1]?=some (.map #[] 0):=by
  unfold newW
  exact alloc_old (alloc_old (alloc_old (heap_alloc_newK _ _ _ (by first | (simp;done) | (simp;omega))) (by first | (simp;done) | (simp;omega))) (by first | (simp;done) | (simp;omega))) (by first | (simp;done) | (simp;omega))
 have b2:(newW w).heap[w.heap.size+2]?=some (.map #[] 0):=by
  unfold newW
  exact alloc_old (alloc_old (heap_alloc_newK _ _ _ (by first | (simp;done) | (simp;omega))) (by first | (simp;done) | (simp;omega))) (by first | (simp;done) | (simp;omega))
 have b3:(newW w).heap[w.heap.size+3]?=some (.cells #[.int .i64 0,.slice none 0 0,.map (some w.heap.size),.map (some (w.heap.size+1)),.map (some (w.heap.size+1+1))] 80):=by
  unfold newW
  exact alloc_old (heap_alloc_newK _ _ _ (by first | (simp;done) | (simp;omega))) (by first | (simp;done) | (simp;omega))
 have b4:(newW w).heap[w.heap.size+4]?=some (.cells #[.pointer (some ⟨w.heap.size+1+1+1,0,none⟩),.slice none 0 0] 53):=by
  unfold newW
  exact heap_alloc_newK _ _ _ (by simp)
 generalize newW w=W at *
 have hp:PV [] [] W (w.heap.size+1+1+1) ⟨w.heap.size+1+1,w.heap.size,w.heap.size+1⟩ (.slice none 0 0) 0 [] [] []:=⟨b3,⟨⟨.map [],owns_nil b2,⟨rfl,fun a b _ _=>rfl,fun kl h=>by cases h⟩⟩,⟨by simp,by simp,by simp⟩,⟨.map [],owns_nil b0,⟨rfl,fun n _=>rfl,fun n _=>rfl,fun kl h=>by cases h⟩⟩,⟨.map [],owns_nil b1,⟨rfl,fun a b _ _=>rfl,fun a b _ _=>rfl⟩⟩,(by show w.heap.size+1+1≠w.heap.size;omega),(by show w.heap.size+1+1≠w.heap.size+1;omega),(by show w.heap.size≠w.heap.size+1;omega)⟩,World.ownsRow_nil _ _ _ _,rfl,rfl,fun i h=>absurd h (by simp),fun i h=>absurd h (by simp),by simp,by omega,fun l h=>absurd h (by simp),by simp⟩
 refine ⟨hb,by omega,hg.2.2,hg.below hb,?_,fun k h=>by omega,good_nil⟩
 exact ⟨w.heap.size+1+1+1,fun k=>w.heap.size≤k∧k≤w.heap.size+3,.slice none 0 0,b4,by omega,fun h=>by omega,fun k h=>by omega,⟨_,_,_,_,hp,⟨by omega,by show _∧_;simp only [];omega,by show _∧_;simp only [];omega,by show _∧_;simp only [];omega,(fun g h=>by cases h),(fun k h=>absurd h (by simp)),(fun k h=>absurd h (by simp))⟩⟩,⟨World.ownsRow_nil _ _ _ _,fun _=>rfl⟩,fun k h=>by cases h⟩
set_option maxHeartbeats 800000 in
theorem new_any (w:World) (hg:Gl w) :
  Calls Tryz.prog 16 #[] w fun e w'=>∃ Lb Z,e=.returned (.pointer (some ⟨Lb,0,none⟩))∧Kv w.heap.size w w' Z Lb sNil:=by
 have hmm:=@run_makeMap Tryz.prog
 go_enter Tryz.func16,Tryz.ntmps16
 go_wp2_with (go_at_call 29;go_in)
 go_ret
 exact ⟨_,_,rfl,new_kv w hg⟩
def head1:ByteArray:=⟨(Pl.cmdB 2 [13,9,5,100]).toArray⟩
def head2:ByteArray:=⟨(Pl.cmdB 3 [13,14,2]).toArray⟩
set_option maxHeartbeats 800000 in
theorem heads_any (w:World) :
  Calls Tryz.prog 12 #[] w fun e w'=>Below w.heap.size w w'∧∃ g,e=.returned (.slice (some ⟨g,0,none⟩) 2 2)∧w.heap.size≤g∧g<w'.heap.size∧w'.cell? ⟨g,0,none⟩=some (.string head1)∧w'.cell? ⟨g,1,none⟩=some (.string head2):=by
 have HC1:=hide (kcommand_lit 2 (by omega) [13,9,5,100] (by simp) (by intro n hn;simp at hn;omega) w)
 have HC2:=hide (fun w1=>kcommand_lit 3 (by omega) [13,14,2] (by simp) (by intro n hn;simp at hn;omega) w1)
 obtain ⟨h1,HH1⟩:∃ h1,Hid (h1=head1):=⟨_,rfl⟩
 obtain ⟨h2,HH2⟩:∃ h2,Hid (h2=head2):=⟨_,rfl⟩
 have HD1:Hid (Calls Tryz.prog 22 #[.int .i64 2,.slice (some ⟨w.heap.size,0,none⟩) 4 4] (w.alloc (.cells #[.int .i64 13,.int .i64 9,.int .i64 5,.int .i64 100] 3)) fun e w'=>e=.returned (.string h1)∧Below w.heap.size w w'):=by rw [HH1.out];exact HC1.out
 have HD2:Hid (∀ w1,Calls Tryz.prog 22 #[.int .i64 3,.slice (some ⟨w1.heap.size,0,none⟩) 3 3] (w1.alloc (.cells #[.int .i64 13,.int .i64 14,.int .i64 2] 3)) fun e w'=>e=.returned (.string h2)∧Below w1.heap.size w1 w'):=by rw [HH2.out];exact HC2.out
 rw [← HH1.out,← HH2.out]
 clear HC1 HC2
 go_enter Tryz.func12,Tryz.ntmps12
 go_wp2_with fail
 refine (HD1.out).mono ?_
 rintro e w1 ⟨rfl,hb1⟩
 go_wp2_with fail
 refine (HD2.out _).mono ?_
 rintro e w2 ⟨rfl,hb2⟩
 have HB:Hid (Below w.heap.size w w2):=hb1.trans (hb2.mono hb1.size)
 clear hb1 hb2
 go_wp2_with fail
 go_ret
 refine ⟨HB.out.alloc HB.out.size _,w2.heap.size,rfl,HB.out.size,by simp,?_,?_⟩
 ·rw [blk_cell (heap_alloc_new w2 _)];rfl
 ·rw [blk_cell (heap_alloc_new w2 _)];rfl
end Go.Proofs.YtgcedalggnmooabGreatDoor
namespace Go.Proofs.YtgcedalggnmooabGreatDoor
open Go.RowKit
def sK:Nat→Sv
 | 0=>sNil
 | 1=>s1
 | _=>s2
def headK:Nat→ByteArray
 | 0=>head1
 | _=>head2
def hcK:Nat→Nat × List Nat
 | 0=>(2,[13,9,5,100])
 | _=>(3,[13,14,2])
theorem headK_step (k:Nat) (hk:k<2):headK k=⟨(Pl.cmdB (hcK k).1 (hcK k).2).toArray⟩∧repV (sK k) (.ok ((hcK k).1,(hcK k).2))=[0]∧stepV (sK k) (.ok ((hcK k).1,(hcK k).2))=sK (k+1)∧(hcK k).1≤12∧Pl.cmd (Pl.cmdB (hcK k).1 (hcK k).2)=.ok ((hcK k).1,(hcK k).2)∧(Pl.cmdB (hcK k).1 (hcK k).2).length≤2097152∧(sK k).lg.length≤200:=by
 rcases (show k=0∨k=1 by omega) with rfl | rfl
 ·exact ⟨rfl,s1_step.2,s1_step.1,by decide,cmd_cmdB (by decide) (by decide) rfl (by intro n hn;simp [hcK] at hn;omega) (by decide),by decide,Nat.zero_le _⟩
 ·refine ⟨rfl,s2_step.2,s2_step.1,by decide,cmd_cmdB (by decide) (by decide) rfl (by intro n hn;simp [hcK] at hn;omega) (by decide),by decide,?_⟩
  have:=s2_lg
  show (frmB (Pl.cmdB 2 [13,9,5,100])).length≤200
  have h2:s2.lg=frmB (Pl.cmdB 2 [13,9,5,100])++frmB (Pl.cmdB 3 [13,14,2]):=rfl
  rw [h2,List.length_append] at this
  omega
theorem shows_lit {B:Nat} {w0 w:World} {Z:Nat→Prop} {Lb:Nat} {s:Sv} (h:Kv B w0 w Z Lb s) (i:Nat) (h1:1≤i) (h2:i≤2147483647) (wt:List Nat) (he:lookE s i=0) (hn:lookN s i=wt) (hwl:0<wt.length) :
  Calls Tryz.prog 25 #[.pointer (some ⟨Lb,0,none⟩),.int .i64 (i:Int),.slice (some ⟨w.heap.size,0,none⟩) wt.length wt.length] (w.alloc (.cells (I wt).toArray 3)) fun e w'=>e=.returned (.bool true)∧∃ Z',Kv B w0 w' Z' Lb s∧Kn Z w Z' w':=by
 have hal:Below w.heap.size w (w.alloc (.cells (I wt).toArray 3)):=al1 w _
 refine (shows_any (h.below hal) i h1 h2 w.heap.size wt.length wt (cl_lit w wt) (fun hz=>by have:=(h.zin _ hz).2;omega) he hn hwl).mono ?_
 rintro e w' ⟨he,Z',hkv,hkn⟩
 exact ⟨he,Z',hkv,(Kn.below hal).trans hkn⟩
set_option maxHeartbeats 1600000 in
theorem opened_any (w:World) (hg:Gl w) :
  Calls Tryz.prog 11 #[] w fun e w'=>∃ Lb Z,e=.returned (.tuple #[.pointer (some ⟨Lb,0,none⟩),.bool true])∧Kv w.heap.size w w' Z Lb s2:=by
 have HNW:=hide (new_any w hg)
 have HHD:=hide heads_any
 clear hg
 go_enter Tryz.func11,Tryz.ntmps11
 go_wp2_with (go_at_call 16;refine (HNW.out).mono ?_;rintro e w1 ⟨Lb,Z,rfl,hkv⟩)
 have HKV:=hide hkv
 clear hkv
 go_wp2_with (go_at_call 12;refine (HHD.out _).mono ?_;rintro e w2 ⟨hb2,g,rfl,hg1,hg2,hc1,hc2⟩)
 have HINI:Hid (Kv w.heap.size w w2 Z Lb sNil):=HKV.out.below hb2
 have hgZ:¬ Z g:=fun hz=>by have:=(HKV.out.zin g hz).2;omega
 have HCC:Hid (∀ k,k<2→w2.cell? ⟨g,k,none⟩=some (.string (headK k))):=fun k hk=>by
  rcases (show k=0∨k=1 by omega) with rfl | rfl
  ·exact hc1
  ·exact hc2
 have HZ0:=hide hgZ
 clear hc1 hc2 hgZ hb2 hg1 HKV HNW HHD
 go_loopw [4,5] (fun ii _ wr=>∃ (k:Nat) (Z':Nat→Prop),ii=.int .i64 k∧k≤2∧Kv w.heap.size w wr Z' Lb (sK k)∧Kn Z w2 Z' wr) (fun ii _ _=>2 - (intOf ii).toNat)
 case atStart=>exact ⟨0,Z,rfl,by omega,HINI.out,Kn.refl _ _⟩
 case round =>
  clear HINI
  obtain ⟨k,Z1,rfl,hk,hkv,hkn⟩:=hrel
  by_cases hlt:k<2
  ·obtain ⟨e0,e1,e2,e4,e5,e6,e7⟩:=headK_step k hlt
   have HH:=hide (handle_kv hkv (hcK k).1 (hcK k).2 e4 e5 e6 (fun _=>by omega))
   rw [← e0,e1,e2] at HH
   have hck:=(World.cell?_of_block (a:=⟨g,k,none⟩) (hkn.keep g hg2 HZ0.out).1).trans (HCC.out k hlt)
   have HKN:=hide hkn
   generalize headK k=t at *
   clear hkv hkn e0 e1 e2 e5 e6
   go_wp2_with (go_at_call 10;refine (HH.out).mono ?_;rintro e w3 ⟨rfl,Z3,hkv3,hkn3⟩;have HK3:=hide hkv3;have HN3:=hide (HKN.out.trans hkn3);clear hkv3 hkn3)
   go_roundw
   case rel=>exact ⟨k+1,Z3,by go_num,by omega,HK3.out,HN3.out⟩
   case measure=>simp [intOf];omega
  ·obtain rfl:k=2:=by omega
   have HS13:=hide (shows_lit hkv 13 (by omega) (by omega) [9,100,1,5,3,0,0,0,2,0] s2_look13.1 s2_look13.2 (by simp))
   have HS13':Hid (Calls Tryz.prog 25 #[.pointer (some ⟨Lb,0,none⟩),.int .i64 13,.slice (some ⟨wr.heap.size,0,none⟩) 10 10] (wr.alloc (.cells #[.int .i64 9,.int .i64 100,.int .i64 1,.int .i64 5,.int .i64 3,.int .i64 0,.int .i64 0,.int .i64 0,.int .i64 2,.int .i64 0] 3)) fun e w'=>e=.returned (.bool true)∧∃ Z',Kv w.heap.size w w' Z' Lb s2∧Kn Z1 wr Z' w'):=HS13.out
   have HS14:Hid (∀ (w4:World) (Z4:Nat→Prop),Kv w.heap.size w w4 Z4 Lb s2→Calls Tryz.prog 25 #[.pointer (some ⟨Lb,0,none⟩),.int .i64 14,.slice (some ⟨w4.heap.size,0,none⟩) 10 10] (w4.alloc (.cells #[.int .i64 9,.int .i64 100,.int .i64 2,.int .i64 2,.int .i64 2,.int .i64 0,.int .i64 0,.int .i64 0,.int .i64 0,.int .i64 0] 3)) fun e w'=>e=.returned (.bool true)∧∃ Z',Kv w.heap.size w w' Z' Lb s2∧Kn Z4 w4 Z' w'):=fun w4 Z4 h4=>shows_lit h4 14 (by omega) (by omega) [9,100,2,2,2,0,0,0,0,0] s2_look14.1 s2_look14.2 (by simp)
   have HSU:Hid (∀ (w4:World) (Z4:Nat→Prop),Kv w.heap.size w w4 Z4 Lb s2→Calls Tryz.prog 20 #[.pointer (some ⟨Lb,0,none⟩),.int .i64 12,.slice (some ⟨w4.heap.size,0,none⟩) 2 2] (w4.alloc (.cells #[.int .i64 8,.int .i64 0] 3)) fun e w'=>∃ Z' v,e=.returned (.tuple #[.int .i64 0,v])∧Kv w.heap.size w w' Z' Lb s2∧Kn Z4 w4 Z' w'∧w'.ownsRow w4.heap.size 3 1 v [0,0].length (I [0,0])∧∀ q,v.ownBlock=some q→¬ Z' q):=fun w4 Z4 h4=>by
    have:=ask_lit h4 12 (by omega) (by omega) (fun q=>absurd q (by omega)) [8,0] rfl (by intro n hn;simp at hn;omega) (by decide) 0 [0,0] (by omega) (by rw [(supV s2 8 0).1,s2_sup]) (by simp) (by simp)
    rw [(supV s2 8 0).2] at this
    exact this
   clear hkv hkn hlt HS13 HCC
   go_wp2_with fail
   refine (HS13'.out).mono ?_
   rintro e w4 ⟨rfl,Z4,hkv4,_⟩
   have HS14':=hide (HS14.out w4 Z4 hkv4)
   clear hkv4 HS14
   go_wp2_with fail
   refine (HS14'.out).mono ?_
   rintro e w5 ⟨rfl,Z5,hkv5,_⟩
   have HSU':=hide (HSU.out w5 Z5 hkv5)
   clear hkv5 HSU
   go_wp2_with fail
   refine (HSU'.out).mono ?_
   rintro e w6 ⟨Z6,v,rfl,hkv6,_,hrow,_⟩
   obtain ⟨q,qc,hv,_,hqlt⟩:=own_some hrow (by simp)
   subst hv
   have c0:=ownInts_cell hrow 0 (by simp)
   have c1:=ownInts_cell hrow 1 (by simp)
   have HK6:=hide hkv6
   clear hkv6 hrow
   simp only [List.getD_cons_zero,List.getD_cons_succ,List.length_cons,List.length_nil] at c0 c1 ⊢
   go_wp2_with fail
   go_quiet (fail)
   go_wp2_with fail
   go_ret2
   exact ⟨Lb,Z6,rfl,HK6.out.below (below_drewN (Below.refl _ _) nq)⟩
end Go.Proofs.YtgcedalggnmooabGreatDoor
namespace Go.Proofs.YtgcedalggnmooabGreatDoor
theorem mergeC_zero {ls:List L} {a b m:Nat} (h:mergeC ls a b m=0):idx a ls<ls.length∧idx b ls<ls.length∧idx a ls≠idx b ls∧roomC ls m=0∧(lotAt ls a).free+(lotAt ls b).free≠0:=by
 unfold mergeC at h
 by_cases hi:idx a ls<ls.length∧idx b ls<ls.length
 ·rw [if_pos hi] at h
  by_cases h1:idx a ls=idx b ls∨(lotAt ls a).goods≠(lotAt ls b).goods
  ·rw [if_pos h1] at h;omega
  ·rw [if_neg h1] at h
   by_cases h2:roomC ls m=0
   ·rw [if_pos h2] at h
    by_cases h3:(lotAt ls a).free+(lotAt ls b).free=0
    ·rw [if_pos h3] at h;omega
    ·exact ⟨hi.1,hi.2,fun e=>h1 (Or.inl e),h2,h3⟩
   ·rw [if_neg h2] at h;exact absurd h h2
 ·rw [if_neg hi] at h;omega
theorem map_getD {ls:List L} {f:L→L} {i:Nat} (hi:i<ls.length):(ls.map f).getD i L0=f (ls.getD i L0):=by simp [List.getD_eq_getElem?_getD,hi]
end Go.Proofs.YtgcedalggnmooabGreatDoor
namespace Go.Proofs.YtgcedalggnmooabGreatDoor
end Go.Proofs.YtgcedalggnmooabGreatDoor
namespace Go.Proofs.YtgcedalggnmooabGreatDoor
open Go.RowKit
structure Scr (w:World) (b off len:Nat) (X:Nat→Nat→Int):Prop where
 lt:b<w.heap.size
 raw:∀ i,i<len→∀ f,f<5→Raw (X i f)
 cell:∀ i,i<len→∀ f,f<5→w.cell? ⟨b,off+i * 5+f,none⟩=some (.int .i64 (X i f))
theorem kinds_len {c:Nat} (h1:1≤c) (h2:c≤12):(Pl.kindsL c).length≤5:=by
 rcases (show c=1∨c=2∨c=3∨c=4∨c=5∨c=6∨c=7∨c=8∨c=9∨c=10∨c=11∨c=12 by omega) with rfl | rfl | rfl | rfl | rfl | rfl | rfl | rfl | rfl | rfl | rfl | rfl <;> simp [Pl.kindsL]
def spX (X:Nat→Nat→Int) (i:Nat):Nat × List Nat:=sp (X i 0) (X i 1) (X i 2) (X i 3) (X i 4)
def cmdX (X:Nat→Nat→Int) (i:Nat):ByteArray:=⟨(Pl.cmdB (spX X i).1 (spX X i).2).toArray⟩
theorem cmdX_facts (X:Nat→Nat→Int) (i:Nat):Pl.cmd (cmdX X i).data.toList=.ok (spX X i)∧0<(cmdX X i).size∧(cmdX X i).size≤2097143∧(cmdX X i).data.toList.drop 1=Pl.toldB (spX X i).2∧(cmdX X i).data.toList.getD 0 0=UInt8.ofNat (spX X i).1:=by
 obtain ⟨h1,h2,h3,h4,h5⟩:=sp_code (X i 0) (X i 1) (X i 2) (X i 3) (X i 4)
 have hd:(cmdX X i).data.toList=Pl.cmdB (spX X i).1 (spX X i).2:=by unfold cmdX;simp
 have hn:∀ n ∈ (spX X i).2,n<9223372036854775808:=fun n hn=>by have:=h4 n hn;omega
 have hk:=kinds_len h1 h2
 have hl:=Pl.toldB_len (spX X i).2 hn
 have h3':(spX X i).2.length=(Pl.kindsL (sp (X i 0) (X i 1) (X i 2) (X i 3) (X i 4)).1).length:=h3
 have hs:(cmdX X i).size=1+(Pl.toldB (spX X i).2).length:=by
  show (Pl.cmdB (spX X i).1 (spX X i).2).toArray.size=_
  unfold Pl.cmdB;simp;omega
 refine ⟨?_,by omega,by omega,by rw [hd];rfl,by rw [hd];rfl⟩
 rw [hd]
 exact cmd_cmdB h1 h2 h3 hn h5
theorem spelt_x {w:World} {b off len:Nat} {X:Nat→Nat→Int} (h:Scr w b off len X) (i:Nat) (hi:i<len) (w1:World) :
  Calls Tryz.prog 13 #[.agg #[.int .i64 (X i 0),.int .i64 (X i 1),.int .i64 (X i 2),.int .i64 (X i 3),.int .i64 (X i 4)]] w1 fun e w'=>e=.returned (.string (cmdX X i))∧Below w1.heap.size w1 w' :=
 spelt_any _ _ _ _ _ (h.raw i hi 0 (by omega)) (h.raw i hi 1 (by omega)) (h.raw i hi 2 (by omega)) (h.raw i hi 3 (by omega)) (h.raw i hi 4 (by omega)) w1
theorem handle_x {B:Nat} {w0 w:World} {Z:Nat→Prop} {Lb:Nat} {s:Sv} (h:Kv B w0 w Z Lb s) (hlg:s.lg.length≤35184372088832) (X:Nat→Nat→Int) (i:Nat) :
  Calls Tryz.prog 10 #[.pointer (some ⟨Lb,0,none⟩),.string (cmdX X i)] w fun e w'=>e=.returned (.string ⟨(repV s (.ok (spX X i))).toArray⟩)∧∃ Z',Kv B w0 w' Z' Lb (stepV s (.ok (spX X i)))∧Kn Z w Z' w':=by
 obtain ⟨h1,h2,h3,h4,h5⟩:=sp_code (X i 0) (X i 1) (X i 2) (X i 3) (X i 4)
 have hd:(cmdX X i).data.toList=Pl.cmdB (spX X i).1 (spX X i).2:=by unfold cmdX;simp
 have hcf:=(cmdX_facts X i).1
 rw [hd] at hcf
 have hsz:=(cmdX_facts X i).2.2.1
 have hsl:(cmdX X i).size=(Pl.cmdB (spX X i).1 (spX X i).2).length:=by rw [← hd,Array.length_toList];rfl
 exact handle_kv h (spX X i).1 (spX X i).2 h2 hcf (by omega) (fun _=>hlg)
theorem spX_lg (X:Nat→Nat→Int) (i:Nat) (s:Sv):(stepV s (.ok (spX X i))).lg.length≤s.lg.length+64:=by
 obtain ⟨h1,h2,h3,h4,h5⟩:=sp_code (X i 0) (X i 1) (X i 2) (X i 3) (X i 4)
 have hk:=kinds_len h1 h2
 exact lgC_len s.lg _ (spX X i).1 (spX X i).2 (by have h3':(spX X i).2.length=_:=h3;omega) (fun n hn=>by have:=h4 n hn;omega)
end Go.Proofs.YtgcedalggnmooabGreatDoor
namespace Go.Proofs.YtgcedalggnmooabGreatDoor
open Go.RowKit Go.ChangeShapes Go.WideShapes
theorem tUOp:(Tryz.prog.underlying 35).map (fun d=>match d with | .struct fs=>some (fs.toList.map (fun f=>(f.type,f.offset))) | _=>none)=some (some [(3,0),(3,1),(3,2),(3,3),(3,4)]):=by kernel_rfl
theorem cellsOp:Tryz.prog.cellsOf 35=5:=by kernel_rfl
theorem cells3':Tryz.prog.cellsOf 3=1:=by kernel_rfl
theorem opFields:∃ fs:Array Field,Tryz.prog.underlying 35=some (.struct fs)∧∀ i,i<5→∃ f,fs[i]?=some f∧f.type=3∧f.offset=i:=by
 have h:=tUOp
 cases hu:Tryz.prog.underlying 35 with
 | none=>rw [hu] at h;simp at h
 | some d =>
  rw [hu] at h
  simp only [Option.map_some,Option.some.injEq] at h
  split at h
  ·rename_i fs
   refine ⟨fs,rfl,fun i hi=>?_⟩
   have h':fs.toList.map (fun f=>(f.type,f.offset))=[(3,0),(3,1),(3,2),(3,3),(3,4)]:=by simpa using h
   have hl:fs.size=5:=by have:=congrArg List.length h';simpa using this
   refine ⟨fs[i],by simp [hl,hi],?_⟩
   have hg:(fs.toList.map (fun f=>(f.type,f.offset)))[i]?=some (fs[i].type,fs[i].offset):=by simp [hl,hi]
   rw [h'] at hg
   rcases (show i=0∨i=1∨i=2∨i=3∨i=4 by omega) with rfl | rfl | rfl | rfl | rfl <;> (simp at hg;exact ⟨hg.1.symm,hg.2.symm⟩)
  ·simp at h
theorem op_cells {H:Type} {enc:TypeId × Value→H} {W:World} {n:Nat} {a:Addr} {cs:List Value} {x:DataW H × List MemPlace} (h1:W.cells? 0 a 5=some cs) (h2:DataW.trod enc Tryz.prog W 0 (fun _=>true) true n 35 cs=some x) :
  ∃ v:Nat→Int,∀ f,f<5→Raw (v f)∧W.cell? (a.add f)=some (.int .i64 (v f)):=by
 obtain ⟨fs,hu,hf⟩:=opFields
 obtain ⟨_,hlen,hcell⟩:=World.cells?_some h1
 obtain ⟨xs,k,hk,hxy,_,hxl,hall⟩:=DataW.trod_struct hu h2
 have each:∀ f,f<5→∃ v:Int,Raw v∧W.cell? (a.add f)=some (.int .i64 v):=fun f hf5=>by
  obtain ⟨fd,hfd,ht,ho⟩:=hf f hf5
  have hg:=hall f fd hfd
  rw [ht,ho,cells3'] at hg
  have hfx:f<xs.length:=by
   rw [hxl]
   rcases Nat.lt_or_ge f fs.size with h | h
   ·exact h
   ·rw [Array.getElem?_eq_none h] at hfd;cases hfd
  rw [List.getElem?_eq_getElem hfx] at hg
  obtain ⟨m,hm,_,hwf⟩:=DataW.trod_int tU3 hg
  have hfc:f<cs.length:=by omega
  have e:(cs.drop f).take 1=[cs[f]]:=by
   rw [List.drop_eq_getElem_cons hfc];rfl
  rw [e] at hm
  simp at hm
  refine ⟨m,?_,?_⟩
  ·have hw:(decide (IntKind.min .i64≤m) && decide (m≤IntKind.max .i64))=true:=hwf
   rw [Bool.and_eq_true,decide_eq_true_eq,decide_eq_true_eq] at hw
   exact hw
  ·rw [hcell f hf5,List.getElem?_eq_getElem hfc,hm]
 refine ⟨fun f=>if h:f<5 then (each f h).choose else 0,fun f hf5=>?_⟩
 have:=(each f hf5).choose_spec
 simp only [hf5,dif_pos]
 exact this
theorem open_script {H:Type} {enc:TypeId × Value→H} {W:World} {a0:Option Addr} {len cap fuel:Nat} {x:DataW H × List MemPlace}
  (hf:DataW.trod enc Tryz.prog W 0 (fun _=>true) true fuel 22 [.slice a0 len cap]=some x) :
  len≤9223372036854775807∧∃ X:Nat→Nat→Int,0<len→∃ b off,a0=some ⟨b,off,none⟩∧Scr W b off len X:=by
 rcases Go.Deep.open_slice Tryz.underlying22 hf with ⟨hcs,hx⟩ | ⟨a,len',cap',m,n,D,Pl,hcs,_,hl,hm,hmm,hx,hcell⟩
 ·simp at hcs
  exact ⟨by omega,fun _ _=>0,fun h=>by omega⟩
 ·simp at hcs
  obtain ⟨rfl,rfl,rfl⟩:=hcs
  simp only [if_true] at hmm
  subst hmm
  have hml:m≤9223372036854775807:=by unfold maxLen at hm;omega
  refine ⟨by omega,?_⟩
  have each:∀ i,i<m→∃ v:Nat→Int,∀ f,f<5→Raw (v f)∧W.cell? ((a.add (i * 5)).add f)=some (.int .i64 (v f)):=fun i hi=>by
   obtain ⟨cs',h1,h2⟩:=hcell i hi
   rw [cellsOp] at h1
   exact op_cells h1 h2
  refine ⟨fun i=>if h:i<m then (each i h).choose else fun _=>0,fun hpos=>?_⟩
  obtain ⟨b,off,spot⟩:=a
  have h00:=((each 0 (by omega)).choose_spec 0 (by omega)).2
  have hspot:spot=none:=by simpa [Addr.add] using World.cell?_spot h00
  subst hspot
  have hadd:∀ i f,Addr.add (Addr.add ⟨b,off,none⟩ (i * 5)) f=⟨b,off+i * 5+f,none⟩:=fun i f=>by rw [add_plain,add_plain]
  refine ⟨b,off,rfl,?_,fun i hi f hf5=>?_,fun i hi f hf5=>?_⟩
  ·rw [hadd] at h00
   rcases Nat.lt_or_ge b W.heap.size with h' | h'
   ·exact h'
   ·simp [World.cell?,Array.getElem?_eq_none h'] at h00
  ·have hi':i<m:=by omega
   simp only [hi',dif_pos]
   exact ((each i hi').choose_spec f hf5).1
  ·have hi':i<m:=by omega
   simp only [hi',dif_pos]
   rw [← hadd]
   exact ((each i hi').choose_spec f hf5).2
end Go.Proofs.YtgcedalggnmooabGreatDoor
