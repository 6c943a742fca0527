import Derived.Test.YtgcedalggnmooabGreatDoorFeX
import Derived.Test.YtgcedalggnmooabGreatDoorOd1X
import Derived.Test.YtgcedalggnmooabGreatDoorMp0X
import Derived.Test.YtgcedalggnmooabGreatDoorEn0X
set_option linter.unusedSimpArgs false
set_option linter.unusedVariables false
set_option maxRecDepth 100000
namespace Go.Proofs.YtgcedalggnmooabGreatDoor
open Go.RowKit
structure PR (N:Nat) (os:List O) (rcs:List (Nat × Nat)) (w:World) (S:Nat) (M:Mx) (v:Value) (td:Nat) (bs:List Nat) (pvs:List Value) (ls:List L):Prop where
 pw:PW N w S v bs pvs ls
 sb:Sb w S td v M
 mp:Mp os rcs w M
structure Zo (Z:Nat→Prop) (b:Nat):Prop where
 low:∀ k,Z k→NU≤k
 b:Z b
structure Kz (Z:Nat→Prop) (b:Nat) (w w':World) (l:List UInt8):Prop where
 kp:Kp Z w w'
 here:w'.heap[b]?=some (.cells #[.string (bst l)] 147 (0,0))
def Bz (Z:Nat→Prop) (w:World) (e:Ending) (w':World):Prop:=(∃ t v,e=.panicked [{ v:=.iface t v,recovered:=false }])∧Kp Z w w'
section
variable {Z:Nat→Prop} {b:Nat} {w w' w'':World} {l r:List UInt8} {e:Ending}
theorem Kz.rd (h:Kz Z b w w' l):Rd b w' w' (bst l):=Rd.refl h.here
theorem Kz.step (h:Kz Z b w w' l) (hZ:Zo Z b) (k:Rd b w' w'' (bst r)):Kz Z b w w'' r :=
 ⟨h.kp.trans ⟨k.os,k.tape,k.output,by rw [k.size];exact Nat.le_refl _,fun i _ hz=>k.block i (fun e=>hz (Or.inl (by rw [e];exact hZ.b)))⟩,k.here⟩
theorem Kz.after (h:Kz Z b w w' l) (k:Below w'.heap.size w' w''):Kz Z b w w'' l:=⟨h.kp.after k,(k.block b (blk_lt h.here)).trans h.here⟩
theorem Kz.refl (h:w.heap[b]?=some (.cells #[.string (bst l)] 147 (0,0))):Kz Z b w w l:=⟨Kp.refl _ _,h⟩
theorem Kz.gl (h:Kz Z b w w' l) (hZ:Zo Z b) (hg:Gl w):Gl w':=by
 obtain ⟨⟨t0,v0,h0⟩,⟨t1,v1,h1⟩,h2⟩:=hg
 have hs:=h.kp.size
 have hl:=hZ.low
 unfold NU at hl
 refine ⟨⟨t0,v0,(World.cell?_of_block (a:=⟨2,0,none⟩) (h.kp.block _ (by show 2<_;omega) (fun hz=>absurd (hl 2 hz) (by omega)))).trans h0⟩,⟨t1,v1,(World.cell?_of_block (a:=⟨3,0,none⟩) (h.kp.block _ (by show 3<_;omega) (fun hz=>absurd (hl 3 hz) (by omega)))).trans h1⟩,by omega⟩
theorem Kz.gu (h:Kz Z b w w' l) (hZ:Zo Z b) (hu:Gu w):Gu w':=by
 obtain ⟨t,v,hc⟩:=hu
 have hl:=hZ.low
 unfold NU at hl
 exact ⟨t,v,(World.cell?_of_block (a:=⟨4,0,none⟩) (h.kp.block _ (cell_lt hc) (fun hz=>absurd (hl 4 hz) (by omega)))).trans hc⟩
theorem Kz.broke (h:Kz Z b w w' l) (hZ:Zo Z b) (k:Broke b w' e w''):Bz Z w e w'':=by
 obtain ⟨k1,s,k2⟩:=k
 exact ⟨k1,h.kp.trans ⟨k2.os,k2.tape,k2.output,by rw [k2.size];exact Nat.le_refl _,fun i _ hz=>k2.block i (fun e=>hz (Or.inl (by rw [e];exact hZ.b)))⟩⟩
theorem Kz.trans (h:Kz Z b w w' l) (k:Kz Z b w' w'' r):Kz Z b w w'' r:=⟨h.kp.trans (k.kp.mono (fun _ q=>Or.inl q)),k.here⟩
theorem Kz.bz (h:Kz Z b w w' l) (k:Bz Z w' e w''):Bz Z w e w'':=⟨k.1,h.kp.trans (k.2.mono (fun _ q=>Or.inl q))⟩
end
section
variable {N:Nat} {os:List O} {rcs:List (Nat × Nat)} {w w':World} {S:Nat} {M:Mx} {v:Value} {td:Nat} {bs:List Nat} {pvs:List Value} {ls:List L}
theorem PW.keep (h:PW N w S v bs pvs ls) (hs:Sb w S td v M) (hq:∀ (k:Nat) (cs:Array Value) (t:TypeId),w.heap[k]?=some (.cells cs t (0,0))→t≠147→t≠140→w'.heap[k]?=w.heap[k]?):PW N w' S v bs pvs ls := {
 c1:=(World.cell?_of_block (a:=⟨S,1,none⟩) (hq S _ _ hs (by decide) (by decide))).trans h.c1
 row:=own_congr h.row (fun g hg=>by obtain ⟨cs,hc⟩:=own_ty h.row hg;exact hq g cs _ hc (by decide) (by decide))
 len:=h.len
 plen:=h.plen
 lot:=fun i hi=>(hq _ _ _ (h.lot i hi) (by decide) (by decide)).trans (h.lot i hi)
 par:=fun i hi=>(h.par i hi).congr (fun q hq'=>by obtain ⟨cs,h3⟩:=(h.par i hi).blk hq';exact hq _ _ _ h3 (by decide) (by decide))
 nodup:=h.nodup
 ids:=h.ids
 pars:=h.pars
 giv:=h.giv
 room:=h.room }
theorem PR.below (h:PR N os rcs w S M v td bs pvs ls) (hb:Below w.heap.size w w'):PR N os rcs w' S M v td bs pvs ls :=
 ⟨h.pw.below hb,(hb.block S (blk_lt h.sb)).trans h.sb,h.mp.congr (fun k es c hk=>hb.block k (blk_lt hk))⟩
theorem PR.rd {b:Nat} {l:List UInt8} {s:ByteArray} (h:PR N os rcs w S M v td bs pvs ls) (hr:w.heap[b]?=some (.cells #[.string (bst l)] 147 (0,0))) (k:Rd b w w' s):PR N os rcs w' S M v td bs pvs ls :=
 ⟨h.pw.keep h.sb (fun z cs t hz ht _=>k.block z (ty_ne hz hr ht)),(k.block S (ty_ne h.sb hr (by decide))).trans h.sb,h.mp.congr (fun z es c hz=>k.block z (map_ne hr hz).symm)⟩
theorem PR.box {A:Nat} {cs:Array Value} (h:PR N os rcs w S M v td bs pvs ls) (hA:w.heap[A]?=some (.cells cs 140 (0,0))) (i:Nat) (u:Value):PR N os rcs (w.setCell ⟨A,i,none⟩ u) S M v td bs pvs ls :=
 ⟨h.pw.keep h.sb (fun z cs t hz _ ht=>Below.heap_setCell _ _ _ _ (ty_ne hz hA ht)),(Below.heap_setCell _ _ _ _ (ty_ne h.sb hA (by decide))).trans h.sb,h.mp.congr (fun z es c hz=>Below.heap_setCell _ _ _ _ (map_ne hA hz).symm)⟩
theorem PR.map {os':List O} {rcs':List (Nat × Nat)} {q:Nat} {es:Array MapEntry} {c:Nat} (h:PR N os rcs w S M v td bs pvs ls) (hq:w.heap[q]?=some (.map es c)) (hg:w.grownBy w' (some q)) (hm:Mp os' rcs' w' M):PR N os' rcs' w' S M v td bs pvs ls:=by
 have hk:∀ (k:Nat) (cs:Array Value) (t:TypeId),w.heap[k]?=some (.cells cs t (0,0))→w'.heap[k]?=w.heap[k]?:=fun k cs t hk=>hg.block k (blk_lt hk) (fun e=>map_ne hk hq (Option.some.inj e))
 exact ⟨h.pw.keep h.sb (fun k cs t hz _ _=>hk k cs t hz),(hk _ _ _ h.sb).trans h.sb,hm⟩
end
theorem look_og {w:World} {b n:Nat} {D:DataW Unit} {os:List O} (h:OwnsO w b n D) (hd:OD os D) (k:Nat) (hk:k≤2147483647):(Instr.lookup 75 (.map (some b)) (.int .i64 (k:Int)) false).run Tryz.prog w=.ok (.int .i64 ((goodsOf os k:Nat):Int)) w:=by
 obtain ⟨c,hr,hc,_⟩:=World.ownsMap.lookup_int h kInt tUOm tUI (zeroI w) (key_o hk)
 rw [hd.val k hk] at hc
 simp at hc
 rw [hr,← hc]
def rdLn (ls:List L) (g:Nat):Nat→Nat→List (Nat × Nat)→List UInt8→Option (List (Nat × Nat) × List UInt8)
 | 0,_,acc,l=>some (acc,l)
 | k+1,p,acc,l=>(rdB (p+1) 2147483647 l).bind fun a=>if idx a.1 ls<ls.length∧(ls.getD (idx a.1 ls) L0).goods=g then (rdB 1 2147483647 a.2).bind fun c=>rdLn ls g k a.1 (acc++[(a.1,c.1)]) c.2 else none
def rdLines (ls:List L) (g:Nat) (l:List UInt8):Option (List (Nat × Nat) × List UInt8):=(rdB 1 30 l).bind fun k=>rdLn ls g k.1 0 [] k.2
def LnP (Z:Nat→Prop) (N b:Nat) (os:List O) (id g:Nat) (rcs:List (Nat × Nat)) (w:World) (S:Nat) (M:Mx) (v:Value) (td:Nat) (bs:List Nat) (pvs:List Value) (ls:List L) (X:Option (List (Nat × Nat) × List UInt8)) (e:Ending) (w':World):Prop:=match X with
 | some (ln,r)=>e=.returned (.tuple #[])∧PR N (os++[⟨id,g,ln⟩]) rcs w' S M v td bs pvs ls∧Kz Z b w w' r
 | none=>Bz Z w e w'
set_option maxHeartbeats 6400000 in
theorem readLines_any {Z:Nat→Prop} {N b:Nat} {os:List O} {id g:Nat} {rcs:List (Nat × Nat)} {w:World} {S:Nat} {M:Mx} {v:Value} {td:Nat} {bs:List Nat} {pvs:List Value} {ls:List L} (hZ:Zo Z b) (hMh:Z M.h) (l:List UInt8) (hl:l.length≤1000000000) (hg:Gl w) (hu:Gu w) (hr:w.heap[b]?=some (.cells #[.string (bst l)] 147 (0,0))) (h:PR N (os++[⟨id,g,[]⟩]) rcs w S M v td bs pvs ls) (hid:id≤2147483647) (hgo:g≤2147483647) (hnew:∀ o' ∈ os,o'.id≠id) (hnl:nLines os≤300) :
  Calls Tryz.prog 114 #[.pointer (some ⟨S,0,none⟩),.pointer (some ⟨b,0,none⟩),.int .i64 (id:Int)] w (LnP Z N b os id g rcs w S M v td bs pvs ls (rdLines ls g l)):=by
 obtain ⟨X,HX⟩:∃ X,Hid (X=rdLines ls g l):=⟨_,rfl⟩
 rw [← HX.out]
 have hb:=hZ.low b hZ.b
 have k0:Kz Z b w w l:=Kz.refl hr
 have HP0:=hide h
 have HNEW:=hide hnew
 clear h hnew
 go_enter Tryz.func114,Tryz.ntmps114
 go_wp2_with fail
 refine (btw_any b hb l hl 1 30 (by omega) (by omega) w hg hu (Rd.refl hr)).mono ?_
 intro e w1 hm
 rcases h1:rdB 1 30 l with _ | ⟨n,r1⟩
 ·rw [h1] at hm
  obtain ⟨t,v',rfl⟩:=hm.1
  refine ⟨rfl,?_⟩
  show LnP Z N b os id g rcs w S M v td bs pvs ls X _ _
  rw [show X=none by rw [HX.out];unfold rdLines;simp only [h1,Option.bind_none]]
  exact k0.broke hZ hm
 rw [h1] at hm
 obtain ⟨rfl,hd1⟩:=hm
 have K1:=hide (k0.step hZ hd1)
 obtain ⟨_,hn30,hl1⟩:=rdB_some h1
 have HP1:=hide (HP0.out.rd hr hd1)
 have HXE:Hid (X=rdLn ls g n 0 [] r1):=by unfold Hid;rw [HX.out];unfold rdLines;simp only [h1,Option.bind_some]
 clear hd1 k0 h1 HX HP0
 go_wp2_with fail
 go_loopw [6,7,10] (fun nv _ ii wr=>∃ (k p:Nat) (acc:List (Nat × Nat)) (q:List UInt8),ii=.int .i64 k∧k≤n∧nv=.int .i64 (p:Int)∧p≤2147483647∧acc.length=k∧(∀ x ∈ acc,x.1≤p)∧q.length≤1000000000∧PR N (os++[⟨id,g,acc⟩]) rcs wr S M v td bs pvs ls∧Kz Z b w wr q∧rdLn ls g (n - k) p acc q=X) (fun _ _ ii _=>n - (intOf ii).toNat)
 case atStart=>exact ⟨0,0,[],r1,rfl,by omega,rfl,by omega,rfl,fun x hx=>by simp at hx,by omega,HP1.out,K1.out,HXE.out.symm⟩
 case round =>
  clear HP1 K1 HXE
  obtain ⟨k,p,acc,q,rfl,hk,rfl,hp,hal,hap,hql,hpr,hkz,hX⟩:=hrel
  by_cases hlt:k<n
  ·have HXE:Hid ((rdB (p+1) 2147483647 q).bind (fun a=>if idx a.1 ls<ls.length∧(ls.getD (idx a.1 ls) L0).goods=g then (rdB 1 2147483647 a.2).bind fun c=>rdLn ls g (n - (k+1)) a.1 (acc++[(a.1,c.1)]) c.2 else none)=X):=by
    unfold Hid;rw [← hX,show n - k=(n - (k+1))+1 by omega];rfl
   clear hX
   have HA:=hide (above_any b hb q hql p hp wr (hkz.gl hZ hg) (hkz.gu hZ hu) hkz.rd)
   have HPR:=hide hpr
   have HKZ:=hide hkz
   have HAP:=hide hap
   clear hpr hkz hap
   go_wp2_with fail
   refine (HA.out).mono ?_
   intro e w5 hm
   rcases h5:rdB (p+1) 2147483647 q with _ | ⟨num,q5⟩
   ·rw [h5] at hm
    obtain ⟨t,v',rfl⟩:=hm.1
    refine ⟨rfl,?_⟩
    show LnP Z N b os id g rcs w S M v td bs pvs ls X _ _
    rw [show X=none by rw [← HXE.out,h5];rfl]
    exact HKZ.out.broke hZ hm
   rw [h5] at hm
   obtain ⟨rfl,hd5⟩:=hm
   obtain ⟨hpn,hnum,hq5⟩:=rdB_some h5
   have k5:=HKZ.out.step hZ hd5
   have hp5:=HPR.out.rd HKZ.out.here hd5
   have HXF:Hid ((if idx num ls<ls.length∧(ls.getD (idx num ls) L0).goods=g then (rdB 1 2147483647 q5).bind fun c=>rdLn ls g (n - (k+1)) num (acc++[(num,c.1)]) c.2 else none)=X):=by
    rw [Hid,← HXE.out,h5];rfl
   have HF:=hide (findW_any hp5.pw num hnum)
   have HMT:Hid (Calls Tryz.prog 89 #[.bool true] w5.drew fun e w'=>w'=w5.drew∧e=.returned (.tuple #[])):=by
    refine (must_any true _ (show Gu w5.drew from k5.gu hZ hu)).mono ?_
    rintro e w' ⟨h1,h2⟩
    rw [if_pos rfl] at h2
    exact ⟨h1,h2⟩
   have HMF:Hid (Calls Tryz.prog 89 #[.bool false] w5.drew fun e w'=>w'=w5.drew∧∃ t v,e=.panicked [{ v:=.iface t v,recovered:=false }]):=by
    refine (must_any false _ (show Gu w5.drew from k5.gu hZ hu)).mono ?_
    rintro e w' ⟨h1,h2⟩
    rw [if_neg (by simp)] at h2
    exact ⟨h1,h2⟩
   have HK5:=hide k5
   have HP5:=hide hp5
   clear HA HPR HKZ hd5 h5 HXE k5
   by_cases hj:idx num ls<ls.length
   ·obtain ⟨bf,HBF⟩:∃ bf,Hid (bf=bs.getD (idx num ls) 0):=⟨_,rfl⟩
    obtain ⟨lf,HLF⟩:∃ lf,Hid (lf=ls.getD (idx num ls) L0):=⟨_,rfl⟩
    have hfv:findV bs ls num=.pointer (some ⟨bf,0,none⟩):=by unfold findV;rw [if_pos hj,← HBF.out]
    rw [hfv] at HF
    have hlf:=hp5.pw.lot _ hj
    rw [← HLF.out,← HBF.out] at hlf
    have hidf:=hp5.pw.ids _ (mem_getD hj)
    rw [← HLF.out] at hidf HXF
    obtain ⟨Do,hDo,hODo⟩:=hp5.mp.o
    have hgof:goodsOf (os++[⟨id,g,acc⟩]) id=g:=by
     unfold goodsOf
     rw [find_last os ⟨id,g,acc⟩ HNEW.out id]
     simp
    have hlk:=look_og (w:=w5.drew) hDo hODo id hid
    rw [hgof] at hlk
    have x1:w5.drew.cell? ⟨bf,1,none⟩=some (.int .i64 (lf.goods:Int)):=by
     show w5.cell? _=_
     rw [blk_cell hlf];rfl
    have s2:w5.drew.cell? ⟨S,2,none⟩=some (.map (some M.o)):=by
     show w5.cell? _=_
     rw [blk_cell hp5.sb];rfl
    clear hfv hp5 hlf hDo hODo hgof
    by_cases hgd:lf.goods=g
    ·have hgb:=beqN_t hgd
     have HXG:Hid ((rdB 1 2147483647 q5).bind (fun c=>rdLn ls g (n - (k+1)) num (acc++[(num,c.1)]) c.2)=X):=by
      rw [Hid,← HXF.out,if_pos ⟨hj,hgd⟩]
     have HGD:=hide hgd
     clear hj hgd
     go_wp2_with fail
     refine (HF.out).mono ?_
     rintro _ w6 ⟨rfl,rfl⟩
     go_wp2_with fail
     obtain ⟨S0,hS0⟩:∃ S0:World→Prop,∀ w',S0 w'↔(w'.cell? ⟨bf,1,none⟩=some (.int .i64 (lf.goods:Int))∧w'.cell? ⟨S,2,none⟩=some (.map (some M.o))∧(Instr.lookup 75 (.map (some M.o)) (.int .i64 (id:Int)) false).run Tryz.prog w'=.ok (.int .i64 (g:Int)) w'):=⟨_,fun _=>Iff.rfl⟩
     have z0:∀ x:Wd S0,x.w.cell? ⟨bf,1,none⟩=some (.int .i64 (lf.goods:Int)):=fun x=>((hS0 _).1 x.h).1
     have z1:∀ x:Wd S0,x.w.cell? ⟨S,2,none⟩=some (.map (some M.o)):=fun x=>((hS0 _).1 x.h).2.1
     have z2:∀ x:Wd S0,(Instr.lookup 75 (.map (some M.o)) (.int .i64 (id:Int)) false).run Tryz.prog x.w=.ok (.int .i64 (g:Int)) x.w:=fun x=>((hS0 _).1 x.h).2.2
     have hS2:S0 w6.drew:=(hS0 _).2 ⟨x1,s2,hlk⟩
     clear hS0 x1 s2 hlk
     haveI hinh:Inhabited (Wd S0):=⟨⟨_,hS2⟩⟩
     refine wp_region_lit (n:=8) (m:=1) 15 15 (fun w'=>∃ x:Wd S0,w'=x.w) (by kernel_rfl) (by kernel_rfl) (fun _ _ d _ _ h=>by cases d <;> exact h) (by kernel_rfl) (by kernel_rfl) rfl rfl ⟨⟨_,hS2⟩,rfl⟩ ?_
     clear hS2
     dsimp only [List.take]
     repeat (go_big_quiet_step (fail))
     refine wpQuiet_nil ?_
     refine wpN_one (i:=15) (by kernel_rfl) rfl rfl (fun K hK=>?_)
     go_wp2_with (go_at_call 89;refine (HMT.out).mono ?_;rintro _ w7 ⟨rfl,rfl⟩)
     refine hK _ _ (by first | exact Or.inl rfl | exact Or.inl trivial | trivial) ?_
     refine wpN_done (by kernel_rfl) ?_
     clear hK z0 z1 z2
     have HKD:=hide (HK5.out.after ((Below.refl _ _).drew.drew:Below _ _ w6.drew.drew))
     have HPD:=hide (HP5.out.below ((Below.refl _ _).drew.drew:Below _ _ w6.drew.drew))
     have s3:w6.drew.drew.cell? ⟨S,3,none⟩=some (.map (some M.h)):=by rw [blk_cell HPD.out.sb];rfl
     have HB:=hide (btw_any b hb q5 (by omega) 1 2147483647 (by omega) (by omega) w6.drew.drew (HKD.out.gl hZ hg) (HKD.out.gu hZ hu) HKD.out.rd)
     clear HMT HMF HF HK5 HP5
     go_wp2_with fail
     generalize w6.drew=wd at *
     rcases h6:rdB 1 2147483647 q5 with _ | ⟨c,q7⟩
     ·rw [h6] at HB
      have HXN:Hid (X=none):=by rw [Hid,← HXG.out,h6];rfl
      clear h6
      obtain ⟨S0,hS0⟩:∃ S0:World→Prop,∀ w',S0 w'↔(w'.cell? ⟨S,3,none⟩=some (.map (some M.h))):=⟨_,fun _=>Iff.rfl⟩
      have z0:∀ x:Wd S0,x.w.cell? ⟨S,3,none⟩=some (.map (some M.h)):=fun x=>((hS0 _).1 x.h)
      have hS2:S0 wd.drew:=(hS0 _).2 s3
      clear hS0 s3
      haveI hinh:Inhabited (Wd S0):=⟨⟨_,hS2⟩⟩
      refine wp_region_lit (n:=8) (m:=2) 8 9 (fun w'=>∃ x:Wd S0,w'=x.w) (by kernel_rfl) (by kernel_rfl) (fun _ _ d _ _ h=>by cases d <;> exact h) (by kernel_rfl) (by kernel_rfl) rfl rfl ⟨⟨_,hS2⟩,rfl⟩ ?_
      clear hS2
      dsimp only [List.take]
      repeat (go_big_quiet_step (fail))
      refine wpQuiet_nil ?_
      refine wpN_one (i:=8) (by kernel_rfl) rfl rfl (fun K hK=>?_)
      go_wp2_with (go_at_call 90;refine (HB.out).mono ?_;rintro e w7 hbk;obtain ⟨t,v',rfl⟩:=hbk.1)
      refine ⟨rfl,?_⟩
      show LnP Z N b os id g rcs w S M v td bs pvs ls X _ _
      rw [HXN.out]
      exact HKD.out.broke hZ hbk
     ·rw [h6] at HB
      obtain ⟨_,hc7,hq7⟩:=rdB_some h6
      have HX7:Hid (rdLn ls g (n - (k+1)) num (acc++[(num,c)]) q7=X):=by rw [Hid,← HXG.out,h6];rfl
      clear h6
      obtain ⟨S0,hS0⟩:∃ S0:World→Prop,∀ w',S0 w'↔(w'.cell? ⟨S,3,none⟩=some (.map (some M.h))):=⟨_,fun _=>Iff.rfl⟩
      have z0:∀ x:Wd S0,x.w.cell? ⟨S,3,none⟩=some (.map (some M.h)):=fun x=>((hS0 _).1 x.h)
      have hS2:S0 wd.drew:=(hS0 _).2 s3
      have HS0:=hide hS0
      clear hS0 s3
      haveI hinh:Inhabited (Wd S0):=⟨⟨_,hS2⟩⟩
      refine wp_region_lit (n:=8) (m:=2) 8 9 (fun w'=>∃ x:Wd S0,w'=x.w) (by kernel_rfl) (by kernel_rfl) (fun _ _ d _ _ h=>by cases d <;> exact h) (by kernel_rfl) (by kernel_rfl) rfl rfl ⟨⟨_,hS2⟩,rfl⟩ ?_
      clear hS2
      dsimp only [List.take]
      repeat (go_big_quiet_step (fail))
      refine wpQuiet_nil ?_
      refine wpN_one (i:=8) (by kernel_rfl) rfl rfl (fun K hK=>?_)
      go_wp2_with (go_at_call 90;refine (HB.out).mono ?_;rintro e w7 ⟨rfl,hd7⟩)
      have hp7:=HPD.out.rd HKD.out.here hd7
      have k7:=HKD.out.step hZ hd7
      refine hK _ _ (Or.inr ⟨⟨_,(HS0.out _).2 (by rw [blk_cell hp7.sb];rfl)⟩,rfl⟩) ?_
      obtain ⟨Do,hDo,hODo⟩:=hp7.mp.o
      obtain ⟨Dh,hDh,hHDh⟩:=hp7.mp.h
      obtain ⟨Dr,hDr,hRDr⟩:=hp7.mp.r
      have hsD:Maps.size Dh<maxLen:=by
       rw [hHDh.size]
       have:nLines (os++[⟨id,g,acc⟩])=nLines os+acc.length:=by simp [nLines]
       rw [this];unfold maxLen;omega
      obtain ⟨w8,hrun,hown8,hgr8⟩:=World.ownsMap.update (w:=w7) hDh kHold tUHm hsD (key_h hid hnum) (plainElem_int (H:=Unit) tUI (wf64 (n:=c) hc7))
      have htid:Maps.Tidy Dh:=World.ownsMap.tidy hDh kHold
      have hHD8:=hHDh.put htid hid HNEW.out hnum (n:=c) (lookup_none (fun x hx e=>by
       have:=HAP.out x hx
       omega))
      have HM8:Hid (Mp (os++[⟨id,g,acc++[(num,c)]⟩]) rcs w8 M):=by
       have hm:=hp7.mp
       exact ⟨⟨Dr,owns_congr hDr (hgr8.block M.r (World.ownsMap.lt hDr) (fun e=>hm.rh (Option.some.inj e))),hRDr⟩,hm.rc,⟨Do,owns_congr hDo (hgr8.block M.o (World.ownsMap.lt hDo) (fun e=>hm.oh (Option.some.inj e))),hODo.congr (by simp)⟩,⟨_,owns_exact hown8,hHD8⟩,hm.ro,hm.rh,hm.oh⟩
      obtain ⟨es,cl,hmm⟩:=owns_map hDh
      have HP8:Hid (PR N (os++[⟨id,g,acc++[(num,c)]⟩]) rcs w8 S M v td bs pvs ls):=hp7.map hmm hgr8 HM8.out
      have HK8:Hid (Kz Z b w w8 q7):=⟨k7.kp.grown hgr8 (fun z hz=>Or.inl (by cases hz;exact hMh)),(hgr8.block b (blk_lt k7.here) (fun e=>map_ne k7.here hmm (Option.some.inj e))).trans k7.here⟩
      have HAP8:Hid (∀ x ∈ acc++[(num,c)],x.1≤num):=fun x hx=>by
       rcases List.mem_append.1 hx with hx | hx
       ·have:=HAP.out x hx;omega
       ·simp at hx;subst hx;exact Nat.le_refl _
      clear hp7 k7 hDo hODo hDh hHDh hDr hRDr hsD htid hHD8 hmm HM8 hd7 hgr8 hown8 HB HPD HKD HS0 HAP
      refine wpN_one (i:=9) (by kernel_rfl) rfl rfl (fun K hK=>?_)
      go_wp2_with fail
      refine hK _ _ (by first | exact Or.inl rfl | exact Or.inl trivial | trivial) ?_
      refine wpN_done (by kernel_rfl) ?_
      clear hK z0
      go_wp2_with fail
      go_roundw
      case rel=>exact ⟨k+1,num,acc++[(num,c)],q7,by go_num,by omega,rfl,hnum,by simp [hal],HAP8.out,by omega,HP8.out,HK8.out,HX7.out⟩
      case measure=>simp [intOf];omega
    ·have hgb:=beqN_f hgd
     have HXN:Hid (X=none):=by
      rw [Hid,← HXF.out,if_neg (fun hc=>hgd hc.2)]
     clear hj hgd
     go_wp2_with fail
     refine (HF.out).mono ?_
     rintro _ w6 ⟨rfl,rfl⟩
     go_wp2_with fail
     obtain ⟨S0,hS0⟩:∃ S0:World→Prop,∀ w',S0 w'↔(w'.cell? ⟨bf,1,none⟩=some (.int .i64 (lf.goods:Int))∧w'.cell? ⟨S,2,none⟩=some (.map (some M.o))∧(Instr.lookup 75 (.map (some M.o)) (.int .i64 (id:Int)) false).run Tryz.prog w'=.ok (.int .i64 (g:Int)) w'):=⟨_,fun _=>Iff.rfl⟩
     have z0:∀ x:Wd S0,x.w.cell? ⟨bf,1,none⟩=some (.int .i64 (lf.goods:Int)):=fun x=>((hS0 _).1 x.h).1
     have z1:∀ x:Wd S0,x.w.cell? ⟨S,2,none⟩=some (.map (some M.o)):=fun x=>((hS0 _).1 x.h).2.1
     have z2:∀ x:Wd S0,(Instr.lookup 75 (.map (some M.o)) (.int .i64 (id:Int)) false).run Tryz.prog x.w=.ok (.int .i64 (g:Int)) x.w:=fun x=>((hS0 _).1 x.h).2.2
     have hS2:S0 w6.drew:=(hS0 _).2 ⟨x1,s2,hlk⟩
     clear hS0 x1 s2 hlk
     haveI hinh:Inhabited (Wd S0):=⟨⟨_,hS2⟩⟩
     refine wp_region_lit (n:=8) (m:=1) 15 15 (fun w'=>∃ x:Wd S0,w'=x.w) (by kernel_rfl) (by kernel_rfl) (fun _ _ d _ _ h=>by cases d <;> exact h) (by kernel_rfl) (by kernel_rfl) rfl rfl ⟨⟨_,hS2⟩,rfl⟩ ?_
     clear hS2
     dsimp only [List.take]
     repeat (go_big_quiet_step (fail))
     refine wpQuiet_nil ?_
     refine wpN_one (i:=15) (by kernel_rfl) rfl rfl (fun K hK=>?_)
     go_wp2_with (go_at_call 89;refine (HMF.out).mono ?_;rintro _ w7 ⟨rfl,t,v',rfl⟩)
     refine ⟨rfl,?_⟩
     show LnP Z N b os id g rcs w S M v td bs pvs ls X _ _
     rw [HXN.out]
     exact ⟨⟨t,v',rfl⟩,(HK5.out.after ((Below.refl _ _).drew)).kp⟩
   ·have HXN:Hid (X=none):=by
     rw [Hid,← HXF.out,if_neg (fun hc=>hj hc.1)]
    have hfv:findV bs ls num=.pointer none:=by unfold findV;rw [if_neg hj]
    rw [hfv] at HF
    clear hfv hj hp5
    go_wp2_with fail
    refine (HF.out).mono ?_
    rintro _ w6 ⟨rfl,rfl⟩
    go_wp2_with fail
    obtain ⟨S0,hS0⟩:∃ S0:World→Prop,∀ w',S0 w'↔(True):=⟨_,fun _=>Iff.rfl⟩
    have hS2:S0 w6.drew:=(hS0 _).2 trivial
    clear hS0
    haveI hinh:Inhabited (Wd S0):=⟨⟨_,hS2⟩⟩
    refine wp_region_lit (n:=8) (m:=1) 15 15 (fun w'=>∃ x:Wd S0,w'=x.w) (by kernel_rfl) (by kernel_rfl) (fun _ _ d _ _ h=>by cases d <;> exact h) (by kernel_rfl) (by kernel_rfl) rfl rfl ⟨⟨_,hS2⟩,rfl⟩ ?_
    clear hS2
    dsimp only [List.take]
    repeat (go_big_quiet_step (fail))
    refine wpQuiet_nil ?_
    refine wpN_one (i:=15) (by kernel_rfl) rfl rfl (fun K hK=>?_)
    go_wp2_with (go_at_call 89;refine (HMF.out).mono ?_;rintro _ w7 ⟨rfl,t,v',rfl⟩)
    refine ⟨rfl,?_⟩
    show LnP Z N b os id g rcs w S M v td bs pvs ls X _ _
    rw [HXN.out]
    exact ⟨⟨t,v',rfl⟩,(HK5.out.after ((Below.refl _ _).drew)).kp⟩
  ·have hkn:k=n:=by omega
   subst hkn
   rw [Nat.sub_self] at hX
   have HXS:Hid (X=some (acc,q)):=by rw [Hid,← hX];rfl
   have HPR:=hide hpr
   have HKZ:=hide hkz
   clear hpr hkz hX hap
   go_wp2_with fail
   go_end0
   show LnP Z N b os id g rcs w S M v td bs pvs ls X _ _
   rw [HXS.out]
   exact ⟨rfl,HPR.out,HKZ.out⟩
end Go.Proofs.YtgcedalggnmooabGreatDoor
namespace Go.Proofs.YtgcedalggnmooabGreatDoor
open Go.RowKit
structure OF (os:List O):Prop where
 nodup:(os.map O.id).Nodup
 len:os.length≤10
 id:∀ o ∈ os,o.id≤2147483647
 cnt:∀ o ∈ os,∀ p ∈ o.lines,p.2≤2147483647
theorem look_hn {w:World} {b n:Nat} {D:DataW Unit} {os:List O} (h:OwnsH w b n D) (hd:HD os D) (k l:Nat) (hk:k≤2147483647) (hl:l≤2147483647):(Instr.lookup 76 (.map (some b)) (.agg #[.int .i64 (k:Int),.int .i64 (l:Int)]) false).run Tryz.prog w=.ok (.int .i64 (((lineOf os k l).getD 0:Nat):Int)) w:=by
 obtain ⟨c,hr,hc,_⟩:=World.ownsMap.lookup_int h kHold tUHm tUI (zeroI w) (key_h hk hl)
 rw [hd.val k l hk hl] at hc
 simp at hc
 rw [hr,← hc]
def doneS (os:List O) (left:Lit→Bool) (n:Nat):Nat:=(os.map fun o=>if left (okey o.id) then 0 else heldBy o n).sum
theorem doneS_end {os:List O} {left:Lit→Bool} (h:∀ kl,left kl=false) (n:Nat):doneS os left n=heldSum os n:=by simp [doneS,heldSum,h]
theorem sum_zero:∀ l:List O,(l.map (fun _=>0)).sum=0
 | []=>rfl
 | _ :: l=>by rw [List.map_cons,List.sum_cons,sum_zero l]
theorem doneS_cons (o:O) (os:List O) (left:Lit→Bool) (n:Nat):doneS (o :: os) left n=(if left (okey o.id) then 0 else heldBy o n)+doneS os left n:=by simp [doneS]
theorem doneS_start {os:List O} {D:DataW Unit} (hD:OD os D) (hO:OF os) (n:Nat):doneS os (Maps.has D) n=0:=by
 unfold doneS
 have:os.map (fun o=>if Maps.has D (okey o.id) then 0 else heldBy o n)=os.map (fun _=>0):=List.map_congr_left (fun o ho=>by
  rw [hD.has o.id (hO.id o ho)]
  have:os.any (fun x=>x.id == o.id)=true:=List.any_eq_true.2 ⟨o,ho,by simp⟩
  rw [this];rfl)
 rw [this];exact sum_zero os
theorem okey_same (a b:Nat):(okey a).sameKey (okey b)=decide (a=b):=by
 by_cases h:a=b
 ·subst h;simp [okey,Lit.sameKey]
 ·rw [Maps.sameKey_ne (fun e=>h (okey_inj e))];simp [h]
theorem doneS_step (left:Lit→Bool) (n:Nat):∀ {os:List O},(os.map O.id).Nodup→∀ {o:O},o ∈ os→left (okey o.id)=true→doneS os (fun z=>left z && !z.sameKey (okey o.id)) n=doneS os left n+heldBy o n
 | [],_,o,h,_=>by simp at h
 | x :: os,hn,o,h,hl=>by
  simp only [List.map_cons,List.nodup_cons] at hn
  have hrest:∀ {os':List O},(∀ y ∈ os',y.id≠o.id)→doneS os' (fun z=>left z && !z.sameKey (okey o.id)) n=doneS os' left n:=fun {os'} hq=>by
   unfold doneS
   congr 1
   refine List.map_congr_left (fun y hy=>?_)
   have:(okey y.id).sameKey (okey o.id)=false:=by rw [okey_same];simp [hq y hy]
   simp only [this,Bool.not_false,Bool.and_true]
  rw [doneS_cons,doneS_cons]
  rcases List.mem_cons.1 h with rfl | h
  ·rw [hrest (os':=os) (fun y hy e=>hn.1 (by rw [← e];exact List.mem_map_of_mem hy))]
   have:(okey o.id).sameKey (okey o.id)=true:=by rw [okey_same];simp
   simp only [this,hl,Bool.not_true,Bool.and_false,Bool.false_eq_true,if_false,if_true]
   omega
  ·have hne:x.id≠o.id:=fun e=>hn.1 (by rw [e];exact List.mem_map_of_mem h)
   rw [doneS_step left n hn.2 h hl]
   have:(okey x.id).sameKey (okey o.id)=false:=by rw [okey_same];simp [hne]
   simp only [this,Bool.not_false,Bool.and_true]
   omega
theorem heldBy_le {os:List O} (hO:OF os) {o:O} (ho:o ∈ os) (n:Nat):heldBy o n≤2147483647:=by
 unfold heldBy
 cases h:o.lines.lookup n with
 | none=>simp
 | some c=>exact hO.cnt o ho _ (lookup_some_mem h)
theorem doneS_le {os:List O} (hO:OF os) (left:Lit→Bool) (n:Nat):doneS os left n≤21474836470:=by
 have h1:∀ l:List O,(∀ o ∈ l,o ∈ os)→doneS l left n≤l.length * 2147483647:=fun l=>by
  induction l with
  | nil=>intro _;simp [doneS]
  | cons x l ih =>
   intro h
   have a:=ih (fun o ho=>h o (by simp [ho]))
   have b:=heldBy_le hO (h x (by simp)) n
   unfold doneS at a ⊢
   simp only [List.map_cons,List.sum_cons,List.length_cons]
   split <;> omega
 have:=h1 os (fun _ h=>h)
 have:=hO.len
 omega
theorem lineOf_mem {os:List O} (hn:(os.map O.id).Nodup) {o:O} (ho:o ∈ os) (n:Nat):(lineOf os o.id n).getD 0=heldBy o n:=by
 have:os.find? (fun x=>x.id == o.id)=some o:=by
  induction os with
  | nil=>simp at ho
  | cons x os ih =>
   simp only [List.map_cons,List.nodup_cons] at hn
   rcases List.mem_cons.1 ho with rfl | ho
   ·simp
   ·have hne:(x.id == o.id)=false:=by
     simp;exact fun e=>hn.1 (by rw [e];exact List.mem_map_of_mem ho)
    rw [List.find?_cons,hne];exact ih hn.2 ho
 unfold lineOf heldBy
 rw [this];rfl
set_option maxHeartbeats 3200000 in
theorem heldFor_any {N:Nat} {os:List O} {rcs:List (Nat × Nat)} {w:World} {S:Nat} {M:Mx} {v:Value} {td:Nat} {bs:List Nat} {pvs:List Value} {ls:List L} (h:PR N os rcs w S M v td bs pvs ls) (hO:OF os) (i:Nat) (hi:i<ls.length) :
  Calls Tryz.prog 115 #[.pointer (some ⟨S,0,none⟩),.pointer (some ⟨bs.getD i 0,0,none⟩)] w fun e w'=>e=.returned (.int .i64 ((heldSum os (ls.getD i L0).id:Nat):Int))∧Below w.heap.size w w':=by
 obtain ⟨D,hD,hOD⟩:=h.mp.o
 have c2:w.cell? ⟨S,2,none⟩=some (.map (some M.o)):=by rw [blk_cell h.sb];rfl
 have hlot:=h.pw.lot i hi
 have hid:=(h.pw.ids _ (mem_getD hi)).1
 obtain ⟨l,HL⟩:∃ l,Hid (l=ls.getD i L0):=⟨_,rfl⟩
 obtain ⟨bl,HBL⟩:∃ bl,Hid (bl=bs.getD i 0):=⟨_,rfl⟩
 rw [← HL.out] at hlot hid ⊢
 rw [← HBL.out] at hlot ⊢
 have HP:=hide h
 have HOD:=hide hOD
 have HO:=hide hO
 have HD0:=hide hD
 have HLOT:=hide hlot
 clear h hD hOD hO hlot
 go_enter Tryz.func115,Tryz.ntmps115
 go_wp2_with (at_range;refine wpList_range_own _ rfl _ 75 rfl 2 2 kInt tUOm _ M.o (Maps.size D) D rfl HD0.out ?_;intro w0 hrg0 hg0 hs0)
 go_frame
 have HRG0:=hide hrg0
 have HB0:Hid (Below w.heap.size w w0):=⟨hg0.os,hg0.tape,hg0.output,by omega,fun k hk=>hg0.block k hk (by simp)⟩
 clear hrg0 hg0 hs0 HD0 c2
 go_loopw [5,6] (fun hv _ wr=>∃ (left:Lit→Bool) (cnt:Nat),hv=.int .i64 ((doneS os left l.id:Nat):Int)∧wr.ranges Tryz.prog 2 (plainElem Tryz.prog 2) M.o w.heap.size (Maps.size D) D left cnt∧(∀ kl,left kl=true→Maps.has D kl=true)∧Below w.heap.size w wr) (fun _ _ wr=>wr.rangeLeft M.o w.heap.size)
 case atStart=>exact ⟨_,_,(by rw [doneS_start HOD.out HO.out];rfl),HRG0.out,fun kl h=>h,HB0.out⟩
 case round =>
  clear HRG0 HB0
  obtain ⟨left,cnt,rfl,hrg,hsub,hb⟩:=hrel
  have HRG:=hide hrg
  have HSUB:=hide hsub
  have HB:=hide hb
  clear hrg hsub hb
  go_wp2_with (at_next;refine wpList_next_ranges_ii _ rfl _ rfl 2 2 .i64 .i64 kInt tUI tUI M.o w.heap.size (Maps.size D) D left cnt rfl HRG.out ?_ ?_)
  ·intro _ hl0
   have HE:=hide (doneS_end (os:=os) hl0 l.id)
   go_wp2_with fail
   go_ret
   exact ⟨by rw [← HE.out];rfl,HB.out⟩
  ·intro x c w1 cnt1 hwx hwc hlx hat hrg1 hlt hg1 hs1 hen
   obtain ⟨o,ho,hxo⟩:=HOD.out.keys _ (HSUB.out _ hlx)
   have hxe:x=((o.id:Nat):Int):=by simpa [okey] using hxo
   subst hxe
   have hbW:Below w.heap.size w w1:=HB.out.grown hg1 HB.out.size (fun k hk=>by cases hk;exact Nat.le_refl _)
   have hp1:=HP.out.below hbW
   have s3:w1.cell? ⟨S,3,none⟩=some (.map (some M.h)):=by rw [blk_cell hp1.sb];rfl
   have l0:w1.cell? ⟨bl,0,none⟩=some (.int .i64 (l.id:Int)):=by rw [blk_cell ((hbW.block bl (blk_lt HLOT.out)).trans HLOT.out)];rfl
   obtain ⟨Dh,hDh,hHD⟩:=hp1.mp.h
   have hoid:=HO.out.id o ho
   have hlk:=look_hn (w:=w1.drew) hDh hHD o.id l.id hoid hid
   rw [lineOf_mem HO.out.nodup ho] at hlk
   have hds:=doneS_le HO.out left l.id
   have hhb:=heldBy_le HO.out ho l.id
   have HST:=hide (doneS_step left l.id HO.out.nodup ho hlx)
   have HB1:=hide hbW
   have HRG1:Hid (w1.drew.ranges Tryz.prog 2 (plainElem Tryz.prog 2) M.o w.heap.size (Maps.size D) D (fun z=>left z && !z.sameKey (okey o.id)) cnt1):=hrg1
   have HLT:=hide hlt
   clear hbW hp1 hDh hHD hrg1 hlt hg1 hs1 hxo hat hwx hwc hlx ho
   generalize doneS os left l.id=sd at *
   generalize heldBy o l.id=hbv at *
   go_wp2_with fail
   go_region
   go_wp2_with fail
   go_roundw
   case rel =>
    refine ⟨_,cnt1,?_,HRG1.out,fun kl hkl=>?_,HB1.out.drew⟩
    ·rw [HST.out];rfl
    ·simp only [Bool.and_eq_true] at hkl;exact HSUB.out kl hkl.1
   case measure=>rw [HRG1.out.left_eq,HRG.out.left_eq];exact HLT.out
end Go.Proofs.YtgcedalggnmooabGreatDoor
namespace Go.Proofs.YtgcedalggnmooabGreatDoor
open Go.RowKit
def adB (os:List O) (l:L):Bool:=decide (l.got=l.free+l.held+l.shipped+l.scrapped+l.given) && decide (l.held=heldSum os l.id)
def Cs (l:L):Prop:=l.got≤2147483647∧l.free≤2147483647∧l.held≤2147483647∧l.shipped≤2147483647∧l.scrapped≤2147483647
def AdP (w:World) (X:Bool) (e:Ending) (w':World):Prop:=if X=true then e=.returned (.tuple #[])∧Below w.heap.size w w' else (∃ t v,e=.panicked [{ v:=.iface t v,recovered:=false }])∧Below w.heap.size w w'
set_option maxHeartbeats 6400000 in
theorem addUp_any {N:Nat} {os:List O} {rcs:List (Nat × Nat)} {w:World} {S:Nat} {M:Mx} {v:Value} {td:Nat} {bs:List Nat} {pvs:List Value} {ls:List L} (h:PR N os rcs w S M v td bs pvs ls) (hN:N≤1000000000000) (hO:OF os) (hC:∀ l ∈ ls,Cs l) (hu:Gu w) :
  Calls Tryz.prog 94 #[.pointer (some ⟨S,0,none⟩)] w (AdP w (ls.all (adB os))):=by
 obtain ⟨X,HX⟩:∃ X,Hid (X=ls.all (adB os)):=⟨_,rfl⟩
 rw [← HX.out]
 obtain ⟨a,cap,hv,hrow⟩:=h.pw.shape
 have c1:=h.pw.c1
 rw [hv] at c1
 have hroom:=h.pw.room
 have HP:=hide h
 have HROW:=hide hrow
 have HO:=hide hO
 have HC:=hide hC
 clear h hv hO hC hrow
 go_enter Tryz.func94,Tryz.ntmps94
 go_wp2_with fail
 go_loopw [3,9] (fun _ ii wr=>∃ i:Nat,ii=.int .i64 i∧i≤ls.length∧(ls.take i).all (adB os)=true∧Below w.heap.size w wr) (fun _ ii _=>ls.length - (intOf ii).toNat)
 case atStart=>exact ⟨0,rfl,by omega,rfl,Below.refl _ _⟩
 case round =>
  obtain ⟨i,rfl,hi,hal,hbw⟩:=hrel
  by_cases hlt:i<ls.length
  ·obtain ⟨G,hG,hcells⟩:=HROW.out (by omega)
   subst hG
   have hp:=HP.out.below hbw
   obtain ⟨l,HL⟩:∃ l,Hid (l=ls.getD i L0):=⟨_,rfl⟩
   obtain ⟨bl,HBL⟩:∃ bl,Hid (bl=bs.getD i 0):=⟨_,rfl⟩
   have hcc:=(hbw.cell (cell_lt (hcells i hlt))).trans (hcells i hlt)
   have hlot:=hp.pw.lot i hlt
   have hcs:=HC.out _ (mem_getD hlt)
   have hgv:=hp.pw.giv _ (mem_getD hlt)
   have HHF:Hid (∀ wz,Below w.heap.size w wz→Calls Tryz.prog 115 #[.pointer (some ⟨S,0,none⟩),.pointer (some ⟨bl,0,none⟩)] wz fun e w'=>e=.returned (.int .i64 ((heldSum os l.id:Nat):Int))∧Hid (Below wz.heap.size wz w')):=fun wz hz=>by
    rw [HBL.out,HL.out];exact heldFor_any (HP.out.below hz) HO.out i hlt
   have HMT:Hid (∀ wz,Below w.heap.size w wz→Calls Tryz.prog 89 #[.bool true] wz fun e w'=>w'=wz∧e=.returned (.tuple #[])):=fun wz hz=>by
    obtain ⟨t,v',hc⟩:=hu
    refine (must_any true wz ⟨t,v',(hz.cell (cell_lt hc)).trans hc⟩).mono ?_
    rintro e w' ⟨h1,h2⟩
    rw [if_pos rfl] at h2
    exact ⟨h1,h2⟩
   have HMF:Hid (∀ wz,Below w.heap.size w wz→Calls Tryz.prog 89 #[.bool false] wz fun e w'=>w'=wz∧∃ t v,e=.panicked [{ v:=.iface t v,recovered:=false }]):=fun wz hz=>by
    obtain ⟨t,v',hc⟩:=hu
    refine (must_any false wz ⟨t,v',(hz.cell (cell_lt hc)).trans hc⟩).mono ?_
    rintro e w' ⟨h1,h2⟩
    rw [if_neg (by simp)] at h2
    exact ⟨h1,h2⟩
   rw [← HL.out] at hcs hgv hlot
   rw [← HBL.out] at hcc hlot
   obtain ⟨hs1,hs2,hs3,hs4,hs5⟩:=hcs
   have HTK:Hid ((ls.take (i+1)).all (adB os)=((ls.take i).all (adB os) && adB os l)):=by
    rw [Hid,List.take_succ_eq_append_getElem hlt,List.all_append,HL.out]
    simp [List.getD_eq_getElem?_getD,hlt]
   have HBAD:Hid (adB os l=false→X=false):=fun hq=>by
    rw [HX.out]
    refine List.all_eq_false.2 ⟨l,by rw [HL.out];exact mem_getD hlt,by rw [hq];simp⟩
   have HLOT:=hide hlot
   have HBW:=hide hbw
   have HAL:=hide hal
   have y5:wr.cell? ⟨bl,5,none⟩=some (.int .i64 (l.got:Int)):=by rw [blk_cell hlot];rfl
   have y6:wr.cell? ⟨bl,6,none⟩=some (.int .i64 (l.free:Int)):=by rw [blk_cell hlot];rfl
   have y7:wr.cell? ⟨bl,7,none⟩=some (.int .i64 (l.held:Int)):=by rw [blk_cell hlot];rfl
   have y8:wr.cell? ⟨bl,8,none⟩=some (.int .i64 (l.shipped:Int)):=by rw [blk_cell hlot];rfl
   have y9:wr.cell? ⟨bl,9,none⟩=some (.int .i64 (l.scrapped:Int)):=by rw [blk_cell hlot];rfl
   have y10:wr.cell? ⟨bl,10,none⟩=some (.int .i64 (l.given:Int)):=by rw [blk_cell hlot];rfl
   have hgv2:l.given≤1000000000000:=by omega
   clear hp hcells hlot hbw hal
   go_wp2_with fail
   by_cases hsum:l.got=l.free+l.held+l.shipped+l.scrapped+l.given
   ·have hsb:((l.got:Int) == (l.free:Int)+(l.held:Int)+(l.shipped:Int)+(l.scrapped:Int)+(l.given:Int))=true:=by rw [beq_iff_eq];omega
    have HSUM:=hide hsum
    clear hsum
    obtain ⟨S0,hS0⟩:∃ S0:World→Prop,∀ w',S0 w'↔(w'.cell? ⟨bl,5,none⟩=some (.int .i64 (l.got:Int))∧w'.cell? ⟨bl,6,none⟩=some (.int .i64 (l.free:Int))∧w'.cell? ⟨bl,7,none⟩=some (.int .i64 (l.held:Int))∧w'.cell? ⟨bl,8,none⟩=some (.int .i64 (l.shipped:Int))∧w'.cell? ⟨bl,9,none⟩=some (.int .i64 (l.scrapped:Int))∧w'.cell? ⟨bl,10,none⟩=some (.int .i64 (l.given:Int))):=⟨_,fun _=>Iff.rfl⟩
    have z0:∀ x:Wd S0,x.w.cell? ⟨bl,5,none⟩=some (.int .i64 (l.got:Int)):=fun x=>((hS0 _).1 x.h).1
    have z1:∀ x:Wd S0,x.w.cell? ⟨bl,6,none⟩=some (.int .i64 (l.free:Int)):=fun x=>((hS0 _).1 x.h).2.1
    have z2:∀ x:Wd S0,x.w.cell? ⟨bl,7,none⟩=some (.int .i64 (l.held:Int)):=fun x=>((hS0 _).1 x.h).2.2.1
    have z3:∀ x:Wd S0,x.w.cell? ⟨bl,8,none⟩=some (.int .i64 (l.shipped:Int)):=fun x=>((hS0 _).1 x.h).2.2.2.1
    have z4:∀ x:Wd S0,x.w.cell? ⟨bl,9,none⟩=some (.int .i64 (l.scrapped:Int)):=fun x=>((hS0 _).1 x.h).2.2.2.2.1
    have z5:∀ x:Wd S0,x.w.cell? ⟨bl,10,none⟩=some (.int .i64 (l.given:Int)):=fun x=>((hS0 _).1 x.h).2.2.2.2.2
    have hS2:S0 wr.drew:=(hS0 _).2 ⟨y5,y6,y7,y8,y9,y10⟩
    clear hS0 y5 y6 y7 y8 y9 y10
    haveI hinh:Inhabited (Wd S0):=⟨⟨_,hS2⟩⟩
    refine wp_region_lit (n:=12) (m:=1) 29 29 (fun w'=>∃ x:Wd S0,w'=x.w) (by kernel_rfl) (by kernel_rfl) (fun _ _ d _ _ h=>by cases d <;> exact h) (by kernel_rfl) (by kernel_rfl) rfl rfl ⟨⟨_,hS2⟩,rfl⟩ ?_
    clear hS2
    dsimp only [List.take]
    repeat (go_big_quiet_step (fail))
    refine wpQuiet_nil ?_
    refine wpN_one (i:=29) (by kernel_rfl) rfl rfl (fun K hK=>?_)
    go_wp2_with (go_at_call 89;refine (HMT.out _ HBW.out.drew).mono ?_;rintro _ w4 ⟨rfl,rfl⟩)
    refine hK _ _ (by first | exact Or.inl rfl | exact Or.inl trivial | trivial) ?_
    refine wpN_done (by kernel_rfl) ?_
    clear hK z0 z1 z2 z3 z4 z5
    go_wp2_with fail
    have y7:wr.drew.drew.cell? ⟨bl,7,none⟩=some (.int .i64 (l.held:Int)):=by
     show wr.cell? _=_
     rw [blk_cell HLOT.out];rfl
    have HHF2:=hide (HHF.out _ HBW.out.drew.drew)
    by_cases hhe:l.held=heldSum os l.id
    ·have hhb:=beqN_t hhe
     have HHE:=hide hhe
     clear hhe
     obtain ⟨S0,hS0⟩:∃ S0:World→Prop,∀ w',S0 w'↔(w'.cell? ⟨bl,7,none⟩=some (.int .i64 (l.held:Int))):=⟨_,fun _=>Iff.rfl⟩
     have z0:∀ x:Wd S0,x.w.cell? ⟨bl,7,none⟩=some (.int .i64 (l.held:Int)):=fun x=>((hS0 _).1 x.h)
     have hS2:S0 wr.drew.drew:=(hS0 _).2 y7
     have HS0:=hide hS0
     clear hS0 y7
     haveI hinh:Inhabited (Wd S0):=⟨⟨_,hS2⟩⟩
     refine wp_region_lit (n:=8) (m:=3) 6 8 (fun w'=>∃ x:Wd S0,w'=x.w) (by kernel_rfl) (by kernel_rfl) (fun _ _ d _ _ h=>by cases d <;> exact h) (by kernel_rfl) (by kernel_rfl) rfl rfl ⟨⟨_,hS2⟩,rfl⟩ ?_
     clear hS2
     dsimp only [List.take]
     repeat (go_big_quiet_step (fail))
     refine wpQuiet_nil ?_
     refine wpN_one (i:=6) (by kernel_rfl) rfl rfl (fun K hK=>?_)
     go_wp2_with (go_at_call 115;refine (HHF2.out).mono ?_;rintro _ w5 ⟨rfl,hb5⟩)
     have hb6:Below w.heap.size w w5:=HBW.out.drew.drew.trans (hb5.out.mono HBW.out.drew.drew.size)
     have HM5:=hide (HMT.out w5 hb6)
     have HS5:Hid (S0 w5):=(HS0.out _).2 (by rw [blk_cell ((hb5.out.block bl (blk_lt HLOT.out)).trans HLOT.out)];rfl)
     have HB6:=hide hb6
     clear hb6 hb5 HS0
     refine hK _ _ (Or.inr ⟨⟨_,HS5.out⟩,rfl⟩) ?_
     refine wpN_one (i:=7) (by kernel_rfl) rfl rfl (fun K hK=>?_)
     go_wp2_with fail
     refine hK _ _ (Or.inr ⟨⟨_,HS5.out⟩,rfl⟩) ?_
     refine wpN_one (i:=8) (by kernel_rfl) rfl rfl (fun K hK=>?_)
     go_wp2_with (go_at_call 89;refine (HM5.out).mono ?_;rintro _ w6 ⟨rfl,rfl⟩)
     refine hK _ _ (by first | exact Or.inl rfl | exact Or.inl trivial | trivial) ?_
     refine wpN_done (by kernel_rfl) ?_
     clear hK z0
     go_wp2_with fail
     go_roundw
     case rel=>exact ⟨i+1,by go_num,by omega,by rw [HTK.out,HAL.out];unfold adB;rw [decide_eq_true HSUM.out,decide_eq_true HHE.out];rfl,HB6.out⟩
     case measure=>simp [intOf];omega
    ·have hhb:=beqN_f hhe
     have HXN:Hid (X=false):=HBAD.out (by unfold adB;rw [decide_eq_false hhe];simp)
     clear hhe
     obtain ⟨S0,hS0⟩:∃ S0:World→Prop,∀ w',S0 w'↔(w'.cell? ⟨bl,7,none⟩=some (.int .i64 (l.held:Int))):=⟨_,fun _=>Iff.rfl⟩
     have z0:∀ x:Wd S0,x.w.cell? ⟨bl,7,none⟩=some (.int .i64 (l.held:Int)):=fun x=>((hS0 _).1 x.h)
     have hS2:S0 wr.drew.drew:=(hS0 _).2 y7
     have HS0:=hide hS0
     clear hS0 y7
     haveI hinh:Inhabited (Wd S0):=⟨⟨_,hS2⟩⟩
     refine wp_region_lit (n:=8) (m:=3) 6 8 (fun w'=>∃ x:Wd S0,w'=x.w) (by kernel_rfl) (by kernel_rfl) (fun _ _ d _ _ h=>by cases d <;> exact h) (by kernel_rfl) (by kernel_rfl) rfl rfl ⟨⟨_,hS2⟩,rfl⟩ ?_
     clear hS2
     dsimp only [List.take]
     repeat (go_big_quiet_step (fail))
     refine wpQuiet_nil ?_
     refine wpN_one (i:=6) (by kernel_rfl) rfl rfl (fun K hK=>?_)
     go_wp2_with (go_at_call 115;refine (HHF2.out).mono ?_;rintro _ w5 ⟨rfl,hb5⟩)
     have hb6:Below w.heap.size w w5:=HBW.out.drew.drew.trans (hb5.out.mono HBW.out.drew.drew.size)
     have HM5:=hide (HMF.out w5 hb6)
     have HS5:Hid (S0 w5):=(HS0.out _).2 (by rw [blk_cell ((hb5.out.block bl (blk_lt HLOT.out)).trans HLOT.out)];rfl)
     have HB6:=hide hb6
     clear hb6 hb5 HS0
     refine hK _ _ (Or.inr ⟨⟨_,HS5.out⟩,rfl⟩) ?_
     refine wpN_one (i:=7) (by kernel_rfl) rfl rfl (fun K hK=>?_)
     go_wp2_with fail
     refine hK _ _ (Or.inr ⟨⟨_,HS5.out⟩,rfl⟩) ?_
     refine wpN_one (i:=8) (by kernel_rfl) rfl rfl (fun K hK=>?_)
     go_wp2_with (go_at_call 89;refine (HM5.out).mono ?_;rintro _ w6 ⟨rfl,t,v',rfl⟩)
     refine ⟨rfl,?_⟩
     show AdP w X _ _
     rw [HXN.out]
     exact ⟨⟨t,v',rfl⟩,HB6.out⟩
   ·have hsb:((l.got:Int) == (l.free:Int)+(l.held:Int)+(l.shipped:Int)+(l.scrapped:Int)+(l.given:Int))=false:=by rw [beq_eq_false_iff_ne];omega
    have HXN:Hid (X=false):=HBAD.out (by unfold adB;rw [decide_eq_false hsum];rfl)
    clear hsum
    obtain ⟨S0,hS0⟩:∃ S0:World→Prop,∀ w',S0 w'↔(w'.cell? ⟨bl,5,none⟩=some (.int .i64 (l.got:Int))∧w'.cell? ⟨bl,6,none⟩=some (.int .i64 (l.free:Int))∧w'.cell? ⟨bl,7,none⟩=some (.int .i64 (l.held:Int))∧w'.cell? ⟨bl,8,none⟩=some (.int .i64 (l.shipped:Int))∧w'.cell? ⟨bl,9,none⟩=some (.int .i64 (l.scrapped:Int))∧w'.cell? ⟨bl,10,none⟩=some (.int .i64 (l.given:Int))):=⟨_,fun _=>Iff.rfl⟩
    have z0:∀ x:Wd S0,x.w.cell? ⟨bl,5,none⟩=some (.int .i64 (l.got:Int)):=fun x=>((hS0 _).1 x.h).1
    have z1:∀ x:Wd S0,x.w.cell? ⟨bl,6,none⟩=some (.int .i64 (l.free:Int)):=fun x=>((hS0 _).1 x.h).2.1
    have z2:∀ x:Wd S0,x.w.cell? ⟨bl,7,none⟩=some (.int .i64 (l.held:Int)):=fun x=>((hS0 _).1 x.h).2.2.1
    have z3:∀ x:Wd S0,x.w.cell? ⟨bl,8,none⟩=some (.int .i64 (l.shipped:Int)):=fun x=>((hS0 _).1 x.h).2.2.2.1
    have z4:∀ x:Wd S0,x.w.cell? ⟨bl,9,none⟩=some (.int .i64 (l.scrapped:Int)):=fun x=>((hS0 _).1 x.h).2.2.2.2.1
    have z5:∀ x:Wd S0,x.w.cell? ⟨bl,10,none⟩=some (.int .i64 (l.given:Int)):=fun x=>((hS0 _).1 x.h).2.2.2.2.2
    have hS2:S0 wr.drew:=(hS0 _).2 ⟨y5,y6,y7,y8,y9,y10⟩
    clear hS0 y5 y6 y7 y8 y9 y10
    haveI hinh:Inhabited (Wd S0):=⟨⟨_,hS2⟩⟩
    refine wp_region_lit (n:=12) (m:=1) 29 29 (fun w'=>∃ x:Wd S0,w'=x.w) (by kernel_rfl) (by kernel_rfl) (fun _ _ d _ _ h=>by cases d <;> exact h) (by kernel_rfl) (by kernel_rfl) rfl rfl ⟨⟨_,hS2⟩,rfl⟩ ?_
    clear hS2
    dsimp only [List.take]
    repeat (go_big_quiet_step (fail))
    refine wpQuiet_nil ?_
    refine wpN_one (i:=29) (by kernel_rfl) rfl rfl (fun K hK=>?_)
    go_wp2_with (go_at_call 89;refine (HMF.out _ HBW.out.drew).mono ?_;rintro _ w4 ⟨rfl,t,v',rfl⟩)
    refine ⟨rfl,?_⟩
    show AdP w X _ _
    rw [HXN.out]
    exact ⟨⟨t,v',rfl⟩,HBW.out.drew⟩
  ·have hil:i=ls.length:=by omega
   subst hil
   rw [List.take_length] at hal
   have HXT:Hid (X=true):=by rw [Hid,HX.out,hal]
   have HBW:=hide hbw
   clear hbw hal
   go_wp2_with fail
   go_end0
   show AdP w X _ _
   rw [HXT.out]
   exact ⟨rfl,HBW.out⟩
end Go.Proofs.YtgcedalggnmooabGreatDoor
