import Derived.Test.YtgcedalggnmooabGreatDoorFgX
import Derived.Test.YtgcedalggnmooabGreatDoorCm0X
import Derived.Test.YtgcedalggnmooabGreatDoorRp1X
set_option linter.unusedSimpArgs false
set_option linter.unusedVariables false
set_option maxRecDepth 100000
namespace Go.Proofs.YtgcedalggnmooabGreatDoor
open Go.RowKit
theorem rdLn_facts {ls:List L} {g:Nat}:∀ {k p:Nat} {acc ln:List (Nat × Nat)} {l r:List UInt8},rdLn ls g k p acc l=some (ln,r)→ln.length=acc.length+k∧r.length≤l.length
 | 0,p,acc,ln,l,r,h=>by simp only [rdLn,Option.some.injEq,Prod.mk.injEq] at h;obtain ⟨rfl,rfl⟩:=h;exact ⟨by omega,Nat.le_refl _⟩
 | k+1,p,acc,ln,l,r,h=>by
  rw [rdLn] at h
  cases h1:rdB (p+1) 2147483647 l with
  | none=>rw [h1] at h;cases h
  | some a =>
   obtain ⟨m,q⟩:=a
   rw [h1] at h
   simp only [Option.bind_some] at h
   split at h
   ·cases h2:rdB 1 2147483647 q with
    | none=>rw [h2] at h;cases h
    | some a2 =>
     obtain ⟨c,q2⟩:=a2
     rw [h2] at h
     simp only [Option.bind_some] at h
     obtain ⟨_,x1,x2⟩:=rdB_some h1
     obtain ⟨_,y1,y2⟩:=rdB_some h2
     obtain ⟨z1,z2⟩:=rdLn_facts h
     exact ⟨by rw [z1,List.length_append,List.length_singleton];omega,by omega⟩
   ·cases h
theorem rdLines_facts {ls:List L} {g:Nat} {ln:List (Nat × Nat)} {l r:List UInt8} (h:rdLines ls g l=some (ln,r)):ln.length≤30∧r.length≤l.length:=by
 unfold rdLines at h
 cases h1:rdB 1 30 l with
 | none=>rw [h1] at h;cases h
 | some a =>
  obtain ⟨k,q⟩:=a
  rw [h1] at h
  simp only [Option.bind_some] at h
  obtain ⟨_,x1,x2⟩:=rdB_some h1
  obtain ⟨z1,z2⟩:=rdLn_facts h
  exact ⟨by rw [z1];simp;omega,by omega⟩
def rdOs (ls:List L):Nat→Nat→List O→List UInt8→Option (List O × List UInt8)
 | 0,_,os,l=>some (os,l)
 | k+1,p,os,l=>(rdB (p+1) 2147483647 l).bind fun a=>(rdB 1 2147483647 a.2).bind fun g=>(rdLines ls g.1 g.2).bind fun x=>rdOs ls k a.1 (os++[⟨a.1,g.1,x.1⟩]) x.2
def rdOrders (ls:List L) (l:List UInt8):Option (List O × List UInt8):=(rdB 0 10 l).bind fun k=>rdOs ls k.1 0 [] k.2
def OsP (Z:Nat→Prop) (N b:Nat) (rcs:List (Nat × Nat)) (w:World) (S:Nat) (M:Mx) (v:Value) (td:Nat) (bs:List Nat) (pvs:List Value) (ls:List L) (X:Option (List O × List UInt8)) (e:Ending) (w':World):Prop:=match X with
 | some (os,r)=>e=.returned (.tuple #[])∧PR N os rcs w' S M v td bs pvs ls∧Kz Z b w w' r
 | none=>Bz Z w e w'
set_option maxHeartbeats 6400000 in
theorem readOrders_any {Z:Nat→Prop} {N b:Nat} {rcs:List (Nat × Nat)} {w:World} {S:Nat} {M:Mx} {v:Value} {td:Nat} {bs:List Nat} {pvs:List Value} {ls:List L} (hZ:Zo Z b) (hMh:Z M.h) (hMo:Z M.o) (l:List UInt8) (hl:l.length≤1000000000) (hg:Gl w) (hu:Gu w) (hr:w.heap[b]?=some (.cells #[.string (bst l)] 147 (0,0))) (h:PR N [] rcs w S M v td bs pvs ls) :
  Calls Tryz.prog 92 #[.pointer (some ⟨S,0,none⟩),.pointer (some ⟨b,0,none⟩)] w (OsP Z N b rcs w S M v td bs pvs ls (rdOrders ls l)):=by
 obtain ⟨X,HX⟩:∃ X,Hid (X=rdOrders ls l):=⟨_,rfl⟩
 rw [← HX.out]
 have hb:=hZ.low b hZ.b
 have k0:Kz Z b w w l:=Kz.refl hr
 have HP0:=hide h
 clear h
 go_enter Tryz.func92,Tryz.ntmps92
 go_wp2_with fail
 refine (btw_any b hb l hl 0 10 (by omega) (by omega) w hg hu (Rd.refl hr)).mono ?_
 intro e w1 hm
 rcases h1:rdB 0 10 l with _ | ⟨n,r1⟩
 ·rw [h1] at hm
  obtain ⟨t,v',rfl⟩:=hm.1
  refine ⟨rfl,?_⟩
  show OsP Z N b rcs w S M v td bs pvs ls X _ _
  rw [show X=none by rw [HX.out];unfold rdOrders;simp only [h1,Option.bind_none]]
  exact k0.broke hZ hm
 rw [h1] at hm
 obtain ⟨rfl,hd1⟩:=hm
 have K1:=hide (k0.step hZ hd1)
 obtain ⟨_,hn30,hl1⟩:=rdB_some h1
 have HP1:=hide (HP0.out.rd hr hd1)
 have HXE:Hid (X=rdOs ls n 0 [] r1):=by unfold Hid;rw [HX.out];unfold rdOrders;simp only [h1,Option.bind_some]
 clear hd1 k0 h1 HX HP0
 go_wp2_with fail
 go_loopw [4,7] (fun nv ii wr=>∃ (k p:Nat) (os:List O) (q:List UInt8),ii=.int .i64 k∧k≤n∧nv=.int .i64 (p:Int)∧p≤2147483647∧os.length=k∧(∀ o ∈ os,o.id≤p)∧nLines os≤30 * k∧q.length≤1000000000∧PR N os rcs wr S M v td bs pvs ls∧Kz Z b w wr q∧rdOs ls (n - k) p os q=X) (fun _ ii _=>n - (intOf ii).toNat)
 case atStart=>exact ⟨0,0,[],r1,rfl,by omega,rfl,by omega,rfl,fun x hx=>by simp at hx,by simp [nLines],by omega,HP1.out,K1.out,HXE.out.symm⟩
 case round =>
  clear HP1 K1 HXE
  obtain ⟨k,p,os,q,rfl,hk,rfl,hp,hol,hop,hnl,hql,hpr,hkz,hX⟩:=hrel
  by_cases hlt:k<n
  ·have HXE:Hid ((rdB (p+1) 2147483647 q).bind (fun a=>(rdB 1 2147483647 a.2).bind fun g=>(rdLines ls g.1 g.2).bind fun x=>rdOs ls (n - (k+1)) a.1 (os++[⟨a.1,g.1,x.1⟩]) x.2)=X):=by
    unfold Hid;rw [← hX,show n - k=(n - (k+1))+1 by omega];rfl
   clear hX
   have HA:=hide (above_any b hb q hql p hp wr (hkz.gl hZ hg) (hkz.gu hZ hu) hkz.rd)
   have HPR:=hide hpr
   have HKZ:=hide hkz
   have HOP:=hide hop
   clear hpr hkz hop
   go_wp2_with fail
   refine (HA.out).mono ?_
   intro e w5 hm
   rcases h5:rdB (p+1) 2147483647 q with _ | ⟨num,q5⟩
   ·rw [h5] at hm
    obtain ⟨t,v',rfl⟩:=hm.1
    refine ⟨rfl,?_⟩
    show OsP Z N b rcs w S M v td bs pvs ls X _ _
    rw [show X=none by rw [← HXE.out,h5];rfl]
    exact HKZ.out.broke hZ hm
   rw [h5] at hm
   obtain ⟨rfl,hd5⟩:=hm
   obtain ⟨hpn,hnum,hq5⟩:=rdB_some h5
   have k5:=HKZ.out.step hZ hd5
   have hp5:=HPR.out.rd HKZ.out.here hd5
   have HXF:Hid ((rdB 1 2147483647 q5).bind (fun g=>(rdLines ls g.1 g.2).bind fun x=>rdOs ls (n - (k+1)) num (os++[⟨num,g.1,x.1⟩]) x.2)=X):=by
    rw [Hid,← HXE.out,h5];rfl
   have HKD:=hide (k5.after ((Below.refl _ _).drew:Below _ _ w5.drew))
   have HPD:=hide (hp5.below ((Below.refl _ _).drew:Below _ _ w5.drew))
   have s2:w5.drew.cell? ⟨S,2,none⟩=some (.map (some M.o)):=by rw [blk_cell HPD.out.sb];rfl
   have HB:=hide (btw_any b hb q5 (by omega) 1 2147483647 (by omega) (by omega) w5.drew (HKD.out.gl hZ hg) (HKD.out.gu hZ hu) HKD.out.rd)
   clear HA HPR HKZ hd5 h5 HXE k5 hp5
   go_wp2_with fail
   rcases h6:rdB 1 2147483647 q5 with _ | ⟨gd,q7⟩
   ·rw [h6] at HB
    have HXN:Hid (X=none):=by rw [Hid,← HXF.out,h6];rfl
    clear h6
    obtain ⟨S0,hS0⟩:∃ S0:World→Prop,∀ w',S0 w'↔(w'.cell? ⟨S,2,none⟩=some (.map (some M.o))):=⟨_,fun _=>Iff.rfl⟩
    have z0:∀ x:Wd S0,x.w.cell? ⟨S,2,none⟩=some (.map (some M.o)):=fun x=>((hS0 _).1 x.h)
    have hS2:S0 w5.drew:=(hS0 _).2 s2
    clear hS0 s2
    haveI hinh:Inhabited (Wd S0):=⟨⟨_,hS2⟩⟩
    refine wp_region_lit (n:=8) (m:=2) 6 7 (fun w'=>∃ x:Wd S0,w'=x.w) (by kernel_rfl) (by kernel_rfl) (fun _ _ d _ _ h=>by cases d <;> exact h) (by kernel_rfl) (by kernel_rfl) rfl rfl ⟨⟨_,hS2⟩,rfl⟩ ?_
    clear hS2
    dsimp only [List.take]
    repeat (go_big_quiet_step (fail))
    refine wpQuiet_nil ?_
    refine wpN_one (i:=6) (by kernel_rfl) rfl rfl (fun K hK=>?_)
    go_wp2_with (go_at_call 90;refine (HB.out).mono ?_;rintro e w7 hbk;obtain ⟨t,v',rfl⟩:=hbk.1)
    refine ⟨rfl,?_⟩
    show OsP Z N b rcs w S M v td bs pvs ls X _ _
    rw [HXN.out]
    exact HKD.out.broke hZ hbk
   ·rw [h6] at HB
    obtain ⟨_,hc7,hq7⟩:=rdB_some h6
    have HX7:Hid ((rdLines ls gd q7).bind (fun x=>rdOs ls (n - (k+1)) num (os++[⟨num,gd,x.1⟩]) x.2)=X):=by rw [Hid,← HXF.out,h6];rfl
    clear h6 HXF
    obtain ⟨S0,hS0⟩:∃ S0:World→Prop,∀ w',S0 w'↔(w'.cell? ⟨S,2,none⟩=some (.map (some M.o))):=⟨_,fun _=>Iff.rfl⟩
    have z0:∀ x:Wd S0,x.w.cell? ⟨S,2,none⟩=some (.map (some M.o)):=fun x=>((hS0 _).1 x.h)
    have hS2:S0 w5.drew:=(hS0 _).2 s2
    have HS0:=hide hS0
    clear hS0 s2
    haveI hinh:Inhabited (Wd S0):=⟨⟨_,hS2⟩⟩
    refine wp_region_lit (n:=8) (m:=2) 6 7 (fun w'=>∃ x:Wd S0,w'=x.w) (by kernel_rfl) (by kernel_rfl) (fun _ _ d _ _ h=>by cases d <;> exact h) (by kernel_rfl) (by kernel_rfl) rfl rfl ⟨⟨_,hS2⟩,rfl⟩ ?_
    clear hS2
    dsimp only [List.take]
    repeat (go_big_quiet_step (fail))
    refine wpQuiet_nil ?_
    refine wpN_one (i:=6) (by kernel_rfl) rfl rfl (fun K hK=>?_)
    go_wp2_with (go_at_call 90;refine (HB.out).mono ?_;rintro e w7 ⟨rfl,hd7⟩)
    have hp7:=HPD.out.rd HKD.out.here hd7
    have k7:=HKD.out.step hZ hd7
    refine hK _ _ (Or.inr ⟨⟨_,(HS0.out _).2 (by rw [blk_cell hp7.sb];rfl)⟩,rfl⟩) ?_
    obtain ⟨Do,hDo,hODo⟩:=hp7.mp.o
    obtain ⟨Dh,hDh,hHDh⟩:=hp7.mp.h
    obtain ⟨Dr,hDr,hRDr⟩:=hp7.mp.r
    have hsD:Maps.size Do<maxLen:=by rw [hODo.size,hol];unfold maxLen;omega
    obtain ⟨w8,hrun,hown8,hgr8⟩:=World.ownsMap.update (w:=w7) hDo kInt tUOm hsD (key_o hnum) (plainElem_int (H:=Unit) tUI (wf64 (n:=gd) hc7))
    have htid:Maps.Tidy Do:=World.ownsMap.tidy hDo kInt
    have HNO:Hid (∀ o' ∈ os,o'.id≠num):=fun o' ho' e=>by
     have:=HOP.out o' ho'
     omega
    have hno:os.any (fun o=>o.id == num)=false:=List.any_eq_false.2 (fun o ho=>by simpa using HNO.out o ho)
    have hOD8:=hODo.put htid hnum hno (g:=gd)
    have HM8:Hid (Mp (os++[⟨num,gd,[]⟩]) rcs w8 M):=by
     have hm:=hp7.mp
     exact ⟨⟨Dr,owns_congr hDr (hgr8.block M.r (World.ownsMap.lt hDr) (fun e=>hm.ro (Option.some.inj e))),hRDr⟩,hm.rc,⟨_,owns_exact hown8,hOD8⟩,⟨Dh,owns_congr hDh (hgr8.block M.h (World.ownsMap.lt hDh) (fun e=>hm.oh (Option.some.inj e).symm)),hHDh.snoc hno⟩,hm.ro,hm.rh,hm.oh⟩
    obtain ⟨es,cl,hmm⟩:=owns_map hDo
    have hp8:PR N (os++[⟨num,gd,[]⟩]) rcs w8 S M v td bs pvs ls:=hp7.map hmm hgr8 HM8.out
    have k8:Kz Z b w w8 q7:=⟨k7.kp.grown hgr8 (fun z hz=>Or.inl (by cases hz;exact hMo)),(hgr8.block b (blk_lt k7.here) (fun e=>map_ne k7.here hmm (Option.some.inj e))).trans k7.here⟩
    have HLN:=hide (readLines_any hZ hMh q7 (by omega) (k8.gl hZ hg) (k8.gu hZ hu) k8.here hp8 hnum hc7 HNO.out (by omega))
    have HK8:=hide k8
    clear hp7 k7 hDo hODo hDh hHDh hDr hRDr hsD htid hOD8 hmm HM8 hd7 hgr8 hown8 HB HPD HKD HS0 hno hp8 k8
    refine wpN_one (i:=7) (by kernel_rfl) rfl rfl (fun K hK=>?_)
    go_wp2_with fail
    refine hK _ _ (by first | exact Or.inl rfl | exact Or.inl trivial | trivial) ?_
    refine wpN_done (by kernel_rfl) ?_
    clear hK z0
    go_wp2_with fail
    refine (HLN.out).mono ?_
    intro e w9 hm
    rcases h9:rdLines ls gd q7 with _ | ⟨ln,q9⟩
    ·rw [h9] at hm
     have hm':Bz Z w8 e w9:=hm
     obtain ⟨t,v',rfl⟩:=hm'.1
     refine ⟨rfl,?_⟩
     show OsP Z N b rcs w S M v td bs pvs ls X _ _
     rw [show X=none by rw [← HX7.out,h9];rfl]
     exact HK8.out.bz hm'
    ·rw [h9] at hm
     obtain ⟨rfl,hp9,hk9⟩:=hm
     obtain ⟨hln,hq9⟩:=rdLines_facts h9
     have HX9:Hid (rdOs ls (n - (k+1)) num (os++[⟨num,gd,ln⟩]) q9=X):=by rw [Hid,← HX7.out,h9];rfl
     have HP9:=hide hp9
     have HK9:=hide (HK8.out.trans hk9)
     have HOP9:Hid (∀ o ∈ os++[⟨num,gd,ln⟩],o.id≤num):=fun o ho=>by
      rcases List.mem_append.1 ho with ho | ho
      ·have:=HOP.out o ho;omega
      ·simp at ho;subst ho;exact Nat.le_refl _
     have HNL9:Hid (nLines (os++[⟨num,gd,ln⟩])≤30 * (k+1)):=by
      have:nLines (os++[⟨num,gd,ln⟩])=nLines os+ln.length:=by simp [nLines]
      rw [Hid,this];omega
     clear hp9 hk9 h9 HX7 HLN HK8 HOP HNO
     go_wp2_with fail
     go_roundw
     case rel=>exact ⟨k+1,num,os++[⟨num,gd,ln⟩],q9,by go_num,by omega,rfl,hnum,by simp [hol],HOP9.out,HNL9.out,by omega,HP9.out,HK9.out,HX9.out⟩
     case measure=>simp [intOf];omega
  ·have hkn:k=n:=by omega
   subst hkn
   rw [Nat.sub_self] at hX
   have HXS:Hid (X=some (os,q)):=by rw [Hid,← hX];rfl
   have HPR:=hide hpr
   have HKZ:=hide hkz
   clear hpr hkz hX hop
   go_wp2_with fail
   go_end0
   show OsP Z N b rcs w S M v td bs pvs ls X _ _
   rw [HXS.out]
   exact ⟨rfl,HPR.out,HKZ.out⟩
end Go.Proofs.YtgcedalggnmooabGreatDoor
namespace Go.Proofs.YtgcedalggnmooabGreatDoor
open Go.RowKit
theorem ext_zero (w:World):ext w ⟨0,#[]⟩=w:=by cases w;simp [ext]
theorem prtB_asym {p q:Nat × Nat} (h:prtB p q=true) (h':prtB q p=true):False:=by
 simp [prtB] at h h'
 omega
theorem prtB_trans {p q r:Nat × Nat} (h:prtB p q=true) (h':prtB q r=true):prtB p r=true:=by
 simp [prtB] at h h' ⊢
 omega
def rdRc (ls:List L):Nat→Nat × Nat→List (Nat × Nat)→List UInt8→Option (List (Nat × Nat) × List UInt8)
 | 0,_,rcs,l=>some (rcs,l)
 | k+1,a,rcs,l=>(rdB 1 2147483647 l).bind fun x=>(rdB 1 2147483647 x.2).bind fun y=>if prtB a (x.1,y.1)=true∧idx x.1 ls<ls.length then rdRc ls k (x.1,y.1) (rcs++[(x.1,y.1)]) y.2 else none
def rdRecs (ls:List L) (l:List UInt8):Option (List (Nat × Nat) × List UInt8):=(rdB 0 10 l).bind fun k=>rdRc ls k.1 (0,0) [] k.2
def RcP (Z:Nat→Prop) (N b:Nat) (os:List O) (w:World) (S:Nat) (M:Mx) (v:Value) (td:Nat) (bs:List Nat) (pvs:List Value) (ls:List L) (X:Option (List (Nat × Nat) × List UInt8)) (e:Ending) (w':World):Prop:=match X with
 | some (rcs,r)=>e=.returned (.tuple #[])∧PR N os rcs w' S M v td bs pvs ls∧Kz Z b w w' r
 | none=>Bz Z w e w'
set_option maxHeartbeats 6400000 in
theorem readRecs_any {Z:Nat→Prop} {N b:Nat} {os:List O} {w:World} {S:Nat} {M:Mx} {v:Value} {td:Nat} {bs:List Nat} {pvs:List Value} {ls:List L} (hZ:Zo Z b) (hMr:Z M.r) (l:List UInt8) (hl:l.length≤1000000000) (hg:Gl w) (hu:Gu w) (hr:w.heap[b]?=some (.cells #[.string (bst l)] 147 (0,0))) (h:PR N os [] w S M v td bs pvs ls) :
  Calls Tryz.prog 93 #[.pointer (some ⟨S,0,none⟩),.pointer (some ⟨b,0,none⟩)] w (RcP Z N b os w S M v td bs pvs ls (rdRecs ls l)):=by
 obtain ⟨X,HX⟩:∃ X,Hid (X=rdRecs ls l):=⟨_,rfl⟩
 rw [← HX.out]
 have hb:=hZ.low b hZ.b
 have ha:=al1 w (.cells #[.int .i64 ((0:Nat):Int),.int .i64 ((0:Nat):Int)] 140)
 have hA:=heap_alloc_new w (.cells #[.int .i64 ((0:Nat):Int),.int .i64 ((0:Nat):Int)] 140)
 have k0:Kz Z b w (w.alloc (.cells #[.int .i64 ((0:Nat):Int),.int .i64 ((0:Nat):Int)] 140)) l:=(Kz.refl hr).after ha
 have HP0:=hide (h.below ha)
 have HB0:=hide (btw_any b hb l hl 0 10 (by omega) (by omega) _ (k0.gl hZ hg) (k0.gu hZ hu) k0.rd)
 obtain ⟨A,HAA⟩:∃ A,Hid (A=w.heap.size):=⟨_,rfl⟩
 have HWA:Hid (w.heap.size≤A):=by rw [Hid,HAA.out];exact Nat.le_refl _
 rw [← HAA.out] at hA
 have HA0:=hide hA
 have HK0:=hide k0
 clear h ha hA k0
 go_enter Tryz.func93,Tryz.ntmps93
 go_wp2_with fail
 rw [← HAA.out]
 refine (HB0.out).mono ?_
 intro e w1 hm
 rcases h1:rdB 0 10 l with _ | ⟨n,r1⟩
 ·rw [h1] at hm
  obtain ⟨t,v',rfl⟩:=hm.1
  refine ⟨rfl,?_⟩
  show RcP Z N b os w S M v td bs pvs ls X _ _
  rw [show X=none by rw [HX.out];unfold rdRecs;simp only [h1,Option.bind_none]]
  exact HK0.out.broke hZ hm
 rw [h1] at hm
 obtain ⟨rfl,hd1⟩:=hm
 have K1:=hide (HK0.out.step hZ hd1)
 obtain ⟨_,hn30,hl1⟩:=rdB_some h1
 have HP1:=hide (HP0.out.rd HK0.out.here hd1)
 have HA1:Hid (w1.heap[A]?=some (.cells #[.int .i64 ((0:Nat):Int),.int .i64 ((0:Nat):Int)] 140 (0,0))):=(hd1.block A (ty_ne HA0.out HK0.out.here (by decide))).trans HA0.out
 have HXE:Hid (X=rdRc ls n (0,0) [] r1):=by unfold Hid;rw [HX.out];unfold rdRecs;simp only [h1,Option.bind_some]
 clear hd1 h1 HX HP0 HB0 HA0 HK0
 go_wp2_with fail
 go_loopw [5,8] (fun _ ii wr=>∃ (k a1 a2:Nat) (rcs:List (Nat × Nat)) (q:List UInt8),ii=.int .i64 k∧k≤n∧rcs.length=k∧(∀ p ∈ rcs,p=(a1,a2)∨prtB p (a1,a2)=true)∧q.length≤1000000000∧wr.heap[A]?=some (.cells #[.int .i64 (a1:Int),.int .i64 (a2:Int)] 140 (0,0))∧PR N os rcs wr S M v td bs pvs ls∧Kz Z b w wr q∧rdRc ls (n - k) (a1,a2) rcs q=X) (fun _ ii _=>n - (intOf ii).toNat)
 case atStart=>exact ⟨0,0,0,[],r1,rfl,by omega,rfl,fun x hx=>by simp at hx,by omega,HA1.out,HP1.out,K1.out,HXE.out.symm⟩
 case round =>
  clear HP1 K1 HXE HA1
  obtain ⟨k,a1,a2,rcs,q,rfl,hk,hrl,hrp,hql,hA,hpr,hkz,hX⟩:=hrel
  by_cases hlt:k<n
  ·have HXE:Hid ((rdB 1 2147483647 q).bind (fun x=>(rdB 1 2147483647 x.2).bind fun y=>if prtB (a1,a2) (x.1,y.1)=true∧idx x.1 ls<ls.length then rdRc ls (n - (k+1)) (x.1,y.1) (rcs++[(x.1,y.1)]) y.2 else none)=X):=by
    unfold Hid;rw [← hX,show n - k=(n - (k+1))+1 by omega];rfl
   clear hX
   have HB1:=hide (btw_any b hb q hql 1 2147483647 (by omega) (by omega) wr (hkz.gl hZ hg) (hkz.gu hZ hu) hkz.rd)
   have HPR:=hide hpr
   have HKZ:=hide hkz
   have HRP:=hide hrp
   have HA:=hide hA
   clear hpr hkz hrp hA
   go_wp2_with fail
   refine (HB1.out).mono ?_
   intro e w5 hm
   rcases h5:rdB 1 2147483647 q with _ | ⟨x,q5⟩
   ·rw [h5] at hm
    obtain ⟨t,v',rfl⟩:=hm.1
    refine ⟨rfl,?_⟩
    show RcP Z N b os w S M v td bs pvs ls X _ _
    rw [show X=none by rw [← HXE.out,h5];rfl]
    exact HKZ.out.broke hZ hm
   rw [h5] at hm
   obtain ⟨rfl,hd5⟩:=hm
   obtain ⟨_,hx,hq5⟩:=rdB_some h5
   have k5:=HKZ.out.step hZ hd5
   have hp5:=HPR.out.rd HKZ.out.here hd5
   have HA5:Hid (w5.heap[A]?=some (.cells #[.int .i64 (a1:Int),.int .i64 (a2:Int)] 140 (0,0))):=(hd5.block A (ty_ne HA.out HKZ.out.here (by decide))).trans HA.out
   have HB2:=hide (btw_any b hb q5 (by omega) 1 2147483647 (by omega) (by omega) w5 (k5.gl hZ hg) (k5.gu hZ hu) k5.rd)
   have HK5:=hide k5
   have HP5:=hide hp5
   clear HB1 HPR HKZ HA hd5 k5 hp5
   go_wp2_with fail
   refine (HB2.out).mono ?_
   intro e w6 hm
   rcases h6:rdB 1 2147483647 q5 with _ | ⟨y,q6⟩
   ·rw [h6] at hm
    obtain ⟨t,v',rfl⟩:=hm.1
    refine ⟨rfl,?_⟩
    show RcP Z N b os w S M v td bs pvs ls X _ _
    rw [show X=none by rw [← HXE.out,h5];show (rdB 1 2147483647 q5).bind _=none;rw [h6];rfl]
    exact HK5.out.broke hZ hm
   rw [h6] at hm
   obtain ⟨rfl,hd6⟩:=hm
   obtain ⟨_,hy,hq6⟩:=rdB_some h6
   have HXF:Hid ((if prtB (a1,a2) (x,y)=true∧idx x ls<ls.length then rdRc ls (n - (k+1)) (x,y) (rcs++[(x,y)]) q6 else none)=X):=by
    rw [Hid,← HXE.out,h5];show _=(rdB 1 2147483647 q5).bind _;rw [h6];rfl
   have k6:=HK5.out.step hZ hd6
   have hp6:=HP5.out.rd HK5.out.here hd6
   have hA6:=(hd6.block A (ty_ne HA5.out HK5.out.here (by decide))).trans HA5.out
   have hB:=al1 w6 (.cells #[.int .i64 (x:Int),.int .i64 (y:Int)] 140)
   have hbox:=heap_alloc_new w6 (.cells #[.int .i64 (x:Int),.int .i64 (y:Int)] 140)
   have HK7:=hide (k6.after hB)
   have HP7:=hide (hp6.below hB)
   have HA7:=hide ((hB.block A (blk_lt hA6)).trans hA6)
   have hcmp:=rcmp_any (a1,a2) (x,y) (w6.alloc (.cells #[.int .i64 (x:Int),.int .i64 (y:Int)] 140)) ⟨0,#[]⟩
   rw [show ext (w6.alloc (.cells #[.int .i64 (x:Int),.int .i64 (y:Int)] 140)) ⟨0,#[]⟩=w6.alloc (.cells #[.int .i64 (x:Int),.int .i64 (y:Int)] 140) from ext_zero _] at hcmp
   have HCM:Hid (Calls Tryz.prog 73 #[.agg #[.int .i64 (a1:Int),.int .i64 (a2:Int)],.agg #[.int .i64 (x:Int),.int .i64 (y:Int)]] (w6.alloc (.cells #[.int .i64 (x:Int),.int .i64 (y:Int)] 140)) fun e w'=>e=.returned (.int .i64 (recC (a1,a2) (x,y)))∧w'.cell? ⟨w6.heap.size,0,none⟩=some (.int .i64 (x:Int))∧Hid (Below (w6.alloc (.cells #[.int .i64 (x:Int),.int .i64 (y:Int)] 140)).heap.size (w6.alloc (.cells #[.int .i64 (x:Int),.int .i64 (y:Int)] 140)) w')):=by
    refine hcmp.mono ?_
    rintro e w' ⟨h1,x',rfl⟩
    exact ⟨h1,((ext_below _ _).cell (blk_lt hbox)).trans (by rw [blk_cell hbox];rfl),ext_below _ _⟩
   have g0:(w6.alloc (.cells #[.int .i64 (x:Int),.int .i64 (y:Int)] 140)).cell? ⟨A,0,none⟩=some (.int .i64 (a1:Int)):=by rw [blk_cell HA7.out];rfl
   have g1:(w6.alloc (.cells #[.int .i64 (x:Int),.int .i64 (y:Int)] 140)).cell? ⟨A,1,none⟩=some (.int .i64 (a2:Int)):=by rw [blk_cell HA7.out];rfl
   have hAlt:=blk_lt hA6
   obtain ⟨B,hBB⟩:∃ B,B=w6.heap.size:=⟨_,rfl⟩
   have HBB:=hide hBB
   have HBOX:Hid ((w6.alloc (.cells #[.int .i64 (x:Int),.int .i64 (y:Int)] 140)).heap[B]?=some (.cells #[.int .i64 (x:Int),.int .i64 (y:Int)] 140 (0,0))):=by rw [hBB];exact hbox
   obtain ⟨rc,HRC⟩:∃ rc,Hid (rc=recC (a1,a2) (x,y)):=⟨_,rfl⟩
   rw [← HRC.out] at HCM
   have hrcl:=recC_lt (a1,a2) (x,y)
   rw [← HRC.out] at hrcl
   clear HB2 HA5 HK5 HP5 hd6 k6 hp6 hA6 hB hbox hcmp h5 h6 HXE hBB
   by_cases hpb:prtB (a1,a2) (x,y)=true
   ·have hrc:=hrcl.2 hpb
    have HPB:=hide hpb
    clear hrcl hpb
    go_wp2_with (go_at_call 73;refine (HCM.out).mono ?_;rintro _ w7 ⟨rfl,c7,hb7⟩)
    have hp7:=HP7.out.below hb7.out
    have k7:=HK7.out.after hb7.out
    refine (findW_any hp7.pw x hx).mono ?_
    rintro _ wz ⟨rfl,rfl⟩
    by_cases hj:idx x ls<ls.length
    ·have hfv:findV bs ls x=.pointer (some ⟨bs.getD (idx x ls) 0,0,none⟩):=by unfold findV;rw [if_pos hj]
     rw [hfv]
     generalize bs.getD (idx x ls) 0=bf
     have HXG:Hid (rdRc ls (n - (k+1)) (x,y) (rcs++[(x,y)]) q6=X):=by
      rw [Hid,← HXF.out,if_pos ⟨HPB.out,hj⟩]
     have HK8:=hide k7
     have HP8:=hide hp7
     have HA8:Hid (wz.heap[A]?=some (.cells #[.int .i64 (a1:Int),.int .i64 (a2:Int)] 140 (0,0))):=(hb7.out.block A (blk_lt HA7.out)).trans HA7.out
     have hBZ:=(hb7.out.block B (blk_lt HBOX.out)).trans HBOX.out
     have HBZ:=hide hBZ
     have m0:wz.cell? ⟨B,0,none⟩=some (.int .i64 (x:Int)):=by rw [blk_cell hBZ];rfl
     have m1:wz.cell? ⟨B,1,none⟩=some (.int .i64 (y:Int)):=by rw [blk_cell hBZ];rfl
     have s4:wz.cell? ⟨S,4,none⟩=some (.map (some M.r)):=by rw [blk_cell hp7.sb];rfl
     obtain ⟨Do,hDo,hODo⟩:=hp7.mp.o
     obtain ⟨Dh,hDh,hHDh⟩:=hp7.mp.h
     obtain ⟨Dr,hDr,hRDr⟩:=hp7.mp.r
     have hsD:Maps.size Dr<maxLen:=by rw [hRDr.size,hrl];unfold maxLen;omega
     obtain ⟨w8,hrun,hown8,hgr8⟩:=World.ownsMap.update (w:=wz.drew) hDr kRec tU56 hsD (key_r hx hy) (unitElem_mk (H:=Unit))
     have htid:Maps.Tidy Dr:=World.ownsMap.tidy hDr kRec
     have hni:(x,y) ∉ rcs:=fun hm=>by
      rcases HRP.out _ hm with h | h
      ·have:=HPB.out
       rw [← h] at this
       simp [prtB] at this
      ·exact prtB_asym h HPB.out
     have hRD8:=fun d=>hRDr.put htid hx hy (by simpa using hni) d
     have hRC8:Rc (rcs++[(x,y)]):=by
      have hm:=hp7.mp.rc
      refine ⟨?_,by simp [hrl];omega,fun p hp=>?_⟩
      ·rw [List.nodup_append]
       exact ⟨hm.nodup,by simp,fun a ha b' hb' e=>by simp at hb';subst hb';exact hni (e ▸ ha)⟩
      ·rcases List.mem_append.1 hp with hp | hp
       ·exact hm.fits p hp
       ·simp at hp;subst hp;exact ⟨hx,hy⟩
     have HM8:Hid (Mp os (rcs++[(x,y)]) w8 M):=by
      have hm:=hp7.mp
      exact ⟨⟨_,owns_exact hown8,hRD8 _⟩,hRC8,⟨Do,owns_congr hDo (hgr8.block M.o (World.ownsMap.lt hDo) (fun e=>hm.ro (Option.some.inj e).symm)),hODo⟩,⟨Dh,owns_congr hDh (hgr8.block M.h (World.ownsMap.lt hDh) (fun e=>hm.rh (Option.some.inj e).symm)),hHDh⟩,hm.ro,hm.rh,hm.oh⟩
     obtain ⟨es,cl,hmm⟩:=owns_map hDr
     have hp8:PR N os (rcs++[(x,y)]) w8 S M v td bs pvs ls:=(hp7.below ((Below.refl _ _).drew)).map hmm hgr8 HM8.out
     have k8:Kz Z b w w8 q6:=⟨(k7.after ((Below.refl _ _).drew)).kp.grown hgr8 (fun z hz=>Or.inl (by cases hz;exact hMr)),(hgr8.block b (blk_lt k7.here) (fun e=>map_ne k7.here hmm (Option.some.inj e))).trans k7.here⟩
     have hA8:w8.heap[A]?=some (.cells #[.int .i64 (a1:Int),.int .i64 (a2:Int)] 140 (0,0)):=(hgr8.block A (blk_lt HA8.out) (fun e=>map_ne HA8.out hmm (Option.some.inj e))).trans HA8.out
     have hB8:w8.heap[B]?=some (.cells #[.int .i64 (x:Int),.int .i64 (y:Int)] 140 (0,0)):=(hgr8.block B (blk_lt hBZ) (fun e=>map_ne hBZ hmm (Option.some.inj e))).trans hBZ
     have n0:w8.cell? ⟨B,0,none⟩=some (.int .i64 (x:Int)):=by rw [blk_cell hB8];rfl
     have n1:w8.cell? ⟨B,1,none⟩=some (.int .i64 (y:Int)):=by rw [blk_cell hB8];rfl
     have p0:w8.cell? ⟨A,0,none⟩=some (.int .i64 (a1:Int)):=by rw [blk_cell hA8];rfl
     have p1:w8.cell? ⟨A,1,none⟩=some (.int .i64 (a2:Int)):=by rw [blk_cell hA8];rfl
     have f0:=blk_free hA8 0
     have f1:=blk_free hA8 1
     have HNA:Hid (∀ z:Nat,∀ es c,w8.heap[z]?=some (.map es c)→z≠A):=fun z es c hz e=>map_ne hA8 hz e.symm
     have HG9:=hide hp8
     have HK9:=hide k8
     have HA9:=hide hA8
     have HRP9:Hid (∀ p ∈ rcs++[(x,y)],p=(x,y)∨prtB p (x,y)=true):=fun p hp=>by
      rcases List.mem_append.1 hp with hp | hp
      ·right
       rcases HRP.out p hp with h | h
       ·rw [h];exact HPB.out
       ·exact prtB_trans h HPB.out
      ·left;simpa using hp
     clear hfv hj hp7 k7 hDo hODo hDh hHDh hDr hRDr hsD htid hRD8 hRC8 hown8 hgr8 hmm hp8 k8 hA8 hB8 hBZ c7 HBZ HA8 HM8 HCM
     rw [← HBB.out]
     go_wp2_with fail
     refine (must_any true wz (HK8.out.gu hZ hu)).mono ?_
     rintro _ w9 ⟨rfl,hm⟩
     rw [if_pos rfl] at hm
     subst hm
     go_wp2_with fail
     go_region
     go_wp2_with fail
     have e1:=heap_setCell_same w8 A 0 _ 140 (.int .i64 (x:Int)) HA9.out
     have e2:=heap_setCell_same _ A 1 _ 140 (.int .i64 (y:Int)) e1
     have eb:=ty_ne HK9.out.here HA9.out (by decide)
     refine ⟨⟨k+1,x,y,rcs++[(x,y)],q6,by go_num,by omega,by simp [hrl],HRP9.out,by omega,e2,(HG9.out.box HA9.out 0 _).box e1 1 _,⟨(HK9.out.kp.setCell (p:=⟨A,0,none⟩) (Or.inr HWA.out) _).setCell (p:=⟨A,1,none⟩) (Or.inr HWA.out) _,((Below.heap_setCell _ _ _ _ eb).trans (Below.heap_setCell _ _ _ _ eb)).trans HK9.out.here⟩,HXG.out⟩,?_⟩
     simp [intOf];omega
    ·have HXN:Hid (X=none):=by
      rw [Hid,← HXF.out,if_neg (fun hc=>hj hc.2)]
     have hfv:findV bs ls x=.pointer none:=by unfold findV;rw [if_neg hj]
     rw [hfv]
     have HK8:=hide k7
     clear hfv hj hp7 k7
     go_wp2_with fail
     refine (must_any false wz (HK8.out.gu hZ hu)).mono ?_
     rintro _ w9 ⟨rfl,hm⟩
     rw [if_neg (by simp)] at hm
     obtain ⟨t,v',rfl⟩:=hm
     refine ⟨rfl,?_⟩
     show RcP Z N b os w S M v td bs pvs ls X _ _
     rw [HXN.out]
     exact ⟨⟨t,v',rfl⟩,HK8.out.kp⟩
   ·have hrc:¬ rc<0:=fun hc=>hpb (hrcl.1 hc)
    have hrc2:(0:Int)≤rc:=by omega
    have HXN:Hid (X=none):=by
     rw [Hid,← HXF.out,if_neg (fun hc=>hpb hc.1)]
    clear hrcl hpb
    go_wp2_with (go_at_call 73;refine (HCM.out).mono ?_;rintro _ w7 ⟨rfl,c7,hb7⟩)
    refine (must_any false w7 ((HK7.out.after hb7.out).gu hZ hu)).mono ?_
    rintro _ w9 ⟨rfl,hm⟩
    rw [if_neg (by simp)] at hm
    obtain ⟨t,v',rfl⟩:=hm
    refine ⟨rfl,?_⟩
    show RcP Z N b os w S M v td bs pvs ls X _ _
    rw [HXN.out]
    exact ⟨⟨t,v',rfl⟩,(HK7.out.after hb7.out).kp⟩
  ·have hkn:k=n:=by omega
   subst hkn
   rw [Nat.sub_self] at hX
   have HXS:Hid (X=some (rcs,q)):=by rw [Hid,← hX];rfl
   have HPR:=hide hpr
   have HKZ:=hide hkz
   clear hpr hkz hX hrp hA
   go_wp2_with fail
   go_end0
   show RcP Z N b os w S M v td bs pvs ls X _ _
   rw [HXS.out]
   exact ⟨rfl,HPR.out,HKZ.out⟩
end Go.Proofs.YtgcedalggnmooabGreatDoor
