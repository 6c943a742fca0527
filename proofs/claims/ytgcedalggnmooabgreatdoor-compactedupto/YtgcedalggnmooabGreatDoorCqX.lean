import Derived.Test.YtgcedalggnmooabGreatDoorOsBX
import Derived.Test.YtgcedalggnmooabGreatDoorOpKX
import Derived.Test.YtgcedalggnmooabGreatDoorStwX
import Derived.Test.YtgcedalggnmooabGreatDoorSnX
set_option linter.unusedSimpArgs false
set_option linter.unusedVariables false
set_option maxRecDepth 100000
namespace Go.Proofs.YtgcedalggnmooabGreatDoor
open Go.RowKit
theorem frP_any {c:List UInt8} (hc:c.length<9223372036854775808) (r:List UInt8):∃ n,frP (frmB c++r)=some (c,n):=by
 have e0:frmB c++r=Pl.num c.length++(c++(chkB (Pl.num c.length++c)++r)):=by unfold frmB;simp
 obtain ⟨h1,h2⟩:=Pl.read_num c.length hc (c++(chkB (Pl.num c.length++c)++r))
 have h3:=Pl.num_len_pos c.length
 have h4:=chkB_len (Pl.num c.length++c)
 generalize hK:chkB (Pl.num c.length++c)=K at e0 h1 h2 h4
 have e1:(Pl.num c.length++(c++(K++r))).drop (Pl.num c.length).length=c++(K++r):=List.drop_left
 have e2:(Pl.num c.length++(c++(K++r))).drop ((Pl.num c.length).length+c.length)=K++r:=by rw [← List.drop_drop,e1,List.drop_left]
 have e3:(Pl.num c.length++(c++(K++r))).take ((Pl.num c.length).length+c.length)=Pl.num c.length++c:=by
  rw [← List.append_assoc]
  have:=List.take_left (l₁:=Pl.num c.length++c) (l₂:=K++r)
  rw [List.length_append] at this;exact this
 have hk:K=chkB (Pl.num c.length++c)→frP (Pl.num c.length++(c++(K++r)))=some (c,(Pl.num c.length).length+c.length+4):=fun hk=>by
  unfold frP
  rw [h1,h2,if_neg (by omega),e1,e2,e3,if_neg (by rw [List.length_append];omega),if_neg (by rw [List.length_append];omega),if_pos (by rw [← hk,List.take_append_of_le_length (by omega),List.take_of_length_le (by omega)]),List.take_left]
 exact ⟨_,by rw [e0];exact hk hK.symm⟩
structure Fac (s:Sv):Prop where
 td:s.td≤2147483647
 ok:∀ l ∈ s.ls,L.Ok l
 room:s.ls.length≤30
 good:Good s.os s.ls
 rc:Rc s.rcs
theorem Kv.fac {B:Nat} {w0 w:World} {Z:Nat→Prop} {Lb:Nat} {s:Sv} (h:Kv B w0 w Z Lb s):Fac s:=by
 obtain ⟨S,Zs,lv,_,_,_,_,⟨M,v,bs,pvs,hP,_⟩,_⟩:=h.pl
 exact ⟨hP.today,hP.ok,hP.room,h.good,hP.maps.rc⟩
structure Snv (s:Sv):Prop where
 sml:Sml s.os s.ls
 snd:Snd s.os s.rcs s.ls
theorem Snv.step {s:Sv} (h:Snv s) (hf:Fac s) {c:Pl.Cmd} {l:List UInt8} (hc:Pl.cmd l=c):Snv (stepV s c):=by
 subst hc
 exact ⟨sml_stepR h.sml hf.ok l,snd_stepR h.snd hf.good hf.ok hf.room s.td l⟩
theorem Snv.stepX {s:Sv} (h:Snv s) (hf:Fac s) (X:Nat→Nat→Int) (i:Nat):Snv (stepV s (.ok (spX X i))):=h.step hf (cmdX_facts X i).1
theorem fac_nil:Fac sNil:=⟨by decide,(fun l hl=>by cases hl),by decide,good_nil,⟨by decide,by decide,fun p hp=>by cases hp⟩⟩
theorem snv_nil:Snv sNil:=⟨sml_nil,snd_nil⟩
theorem fac_s1:Fac s1:=by
 have d1:=cmd_cmdB (c:=2) (ns:=[13,9,5,100]) (by omega) (by omega) rfl (by intro n hn;simp at hn;omega) (by kernel_rfl)
 have hg:=good_stepR (rcs:=sNil.rcs) (td:=sNil.td) (os:=sNil.os) (ls:=sNil.ls) good_nil (by decide) (Pl.cmdB 2 [13,9,5,100])
 rw [d1] at hg
 have e:=s1_step.1
 refine ⟨by decide,fun l hl=>?_,by decide,?_,⟨by decide,by decide,fun p hp=>by cases hp⟩⟩
 ·simp only [s1,List.mem_singleton] at hl
  subst hl
  exact ⟨by decide,by decide,by decide,by decide,by decide,by decide,by decide,fun p hp=>by cases hp⟩
 ·rw [← e];exact hg
theorem snv_s2:Snv s2:=by
 have d1:=cmd_cmdB (c:=2) (ns:=[13,9,5,100]) (by omega) (by omega) rfl (by intro n hn;simp at hn;omega) (by kernel_rfl)
 have d2:=cmd_cmdB (c:=3) (ns:=[13,14,2]) (by omega) (by omega) rfl (by intro n hn;simp at hn;omega) (by kernel_rfl)
 have h1:Snv s1:=by rw [← s1_step.1];exact snv_nil.step fac_nil d1
 rw [← s2_step.1]
 exact h1.step fac_s1 d2
def sKx (X:Nat→Nat→Int):Nat→Sv
 | 0=>s2
 | k+1=>stepV (sKx X k) (.ok (spX X k))
set_option maxHeartbeats 1600000 in
theorem played_k (R:Nat→Sv→Prop) (hR0:R 0 s2) (a0:Option Addr) (len cap:Nat) (hlen:len≤2097152) (X:Nat→Nat→Int) (w:World) (hR:∀ k s,Fac s→R k s→R (k+1) (stepV s (.ok (spX X k)))) (hg:Gl w) (hx:0<len→∃ b off,a0=some ⟨b,off,none⟩∧Scr w b off len X) :
  Calls Tryz.prog 7 #[.slice a0 len cap] w fun e w'=>∃ Lb Z s,e=.returned (.tuple #[.pointer (some ⟨Lb,0,none⟩),.bool true])∧Kv w.heap.size w w' Z Lb s∧R len s∧s.lg.length≤200+64 * len:=by
 have HOP:=hide (opened_any w hg)
 have HX0:=hide hx
 clear hg hx
 go_enter Tryz.func7,Tryz.ntmps7
 go_wp2_with (go_at_call 11;refine (HOP.out).mono ?_;rintro e w1 ⟨Lb,Z,rfl,hkv⟩)
 have HINI:=hide hkv
 clear hkv HOP
 go_loopw [6] (fun ii wr=>∃ (k:Nat) (Z':Nat→Prop) (s:Sv),ii=.int .i64 k∧k≤len∧Kv w.heap.size w wr Z' Lb s∧R k s∧s.lg.length≤200+64 * k) (fun ii _=>len - (intOf ii).toNat)
 case atStart=>exact ⟨0,Z,s2,rfl,by omega,HINI.out,hR0,s2_lg⟩
 case round =>
  clear HINI
  obtain ⟨k,Z1,s,rfl,hk,hkv,hsc,hslg⟩:=hrel
  by_cases hlt:k<len
  ·obtain ⟨b,off,ha0,hxs⟩:=HX0.out (by omega)
   subst ha0
   have hblt:=hxs.lt
   have HX:=hide hxs
   clear hxs
   have c0:wr.cell? ⟨b,off+k * 5,none⟩=some (.int .i64 (X k 0)):=(hkv.old.cell (p:=⟨b,off+k * 5+0,none⟩) hblt).trans (HX.out.cell k hlt 0 (by omega))
   have c1:=(hkv.old.cell (p:=⟨b,off+k * 5+1,none⟩) hblt).trans (HX.out.cell k hlt 1 (by omega))
   have c2:=(hkv.old.cell (p:=⟨b,off+k * 5+2,none⟩) hblt).trans (HX.out.cell k hlt 2 (by omega))
   have c3:=(hkv.old.cell (p:=⟨b,off+k * 5+3,none⟩) hblt).trans (HX.out.cell k hlt 3 (by omega))
   have c4:=(hkv.old.cell (p:=⟨b,off+k * 5+4,none⟩) hblt).trans (HX.out.cell k hlt 4 (by omega))
   have HSP:=hide (spelt_x HX.out k hlt)
   have HHD:Hid (∀ w2,Below wr.heap.size wr w2→Calls Tryz.prog 10 #[.pointer (some ⟨Lb,0,none⟩),.string (cmdX X k)] w2 fun e w'=>∃ r,e=.returned (.string r)∧∃ Z',Kv w.heap.size w w' Z' Lb (stepV s (.ok (spX X k)))):=fun w2 hb2=>(handle_x (hkv.below hb2) (by omega) X k).mono (fun e w' h=>⟨_,h.1,h.2.imp (fun Z' h'=>h'.1)⟩)
   have HLN:Hid ((stepV s (.ok (spX X k))).lg.length≤200+64 * (k+1)):=by have:=spX_lg X k s;unfold Hid;omega
   have HSC:Hid (R (k+1) (stepV s (.ok (spX X k)))):=hR _ _ hkv.fac hsc
   generalize cmdX X k=t at *
   generalize X k 0=x0 at *
   generalize X k 1=x1 at *
   generalize X k 2=x2 at *
   generalize X k 3=x3 at *
   generalize X k 4=x4 at *
   clear hkv hsc
   go_wp2_with (go_at_call 13;refine (HSP.out _).mono ?_;rintro e w2 ⟨rfl,hb2⟩;have HH2:=hide (HHD.out w2 hb2))
   refine (HH2.out).mono ?_
   rintro e w3 ⟨r,rfl,Z3,hkv3⟩
   have HK3:=hide hkv3
   clear hkv3 HH2 HHD
   go_wp2_with fail
   go_roundw
   case rel=>exact ⟨k+1,Z3,_,by go_num,by omega,HK3.out,HSC.out,HLN.out⟩
   case measure=>simp [intOf];omega
  ·obtain rfl:k=len:=by omega
   have HKV:=hide hkv
   have HSC:=hide hsc
   clear hkv hsc hlt
   go_wp2_with fail
   go_ret2
   exact ⟨Lb,Z1,s,rfl,HKV.out,HSC.out,hslg⟩
theorem played_s (a0:Option Addr) (len cap:Nat) (hlen:len≤2097152) (X:Nat→Nat→Int) (w:World) (hg:Gl w) (hx:0<len→∃ b off,a0=some ⟨b,off,none⟩∧Scr w b off len X) :
  Calls Tryz.prog 7 #[.slice a0 len cap] w fun e w'=>∃ Lb Z,e=.returned (.tuple #[.pointer (some ⟨Lb,0,none⟩),.bool true])∧Kv w.heap.size w w' Z Lb (sKx X len)∧Snv (sKx X len)∧(sKx X len).lg.length≤200+64 * len:=by
 refine (played_k (fun k s=>s=sKx X k∧Snv s) ⟨rfl,snv_s2⟩ a0 len cap hlen X w (fun k s hf hr=>⟨by rw [hr.1];rfl,hr.2.stepX hf X k⟩) hg hx).mono ?_
 rintro e w' ⟨Lb,Z,s,he,hk,⟨rfl,hs⟩,hl⟩
 exact ⟨Lb,Z,he,hk,hs,hl⟩
def cpt (s:Sv):Sv:=⟨s.td,s.os,s.rcs,s.ls,frmB (stB s.td s.os s.rcs s.ls)⟩
theorem compact_kv {B:Nat} {w0 w:World} {Z:Nat→Prop} {Lb:Nat} {s:Sv} (h:Kv B w0 w Z Lb s) (hsm:Sml s.os s.ls) :
  Calls Tryz.prog 18 #[.pointer (some ⟨Lb,0,none⟩)] w fun e w'=>e=.returned (.tuple #[])∧∃ Z',Kv B w0 w' Z' Lb (cpt s)∧Kn Z w Z' w':=by
 refine (compactP_any h.pl h.good hsm).mono ?_
 rintro e w' ⟨he,hk,hpl⟩
 refine ⟨he,fun k=>Zn Z w k∧k<w'.heap.size,⟨h.old.trans ⟨hk.os,hk.tape,hk.output,hk.size,fun k hkB=>hk.block k (Nat.lt_of_lt_of_le hkB h.size) (fun hz=>by have:=(h.zin k hz).1;omega)⟩,Nat.le_trans h.size hk.size,h.two,h.gl.kp hk (fun hz=>by have:=(h.zin 2 hz).1;have:=h.two;omega) (fun hz=>by have:=(h.zin 3 hz).1;have:=h.two;omega),hpl.bound,?_,h.good⟩,hk.size,fun k hkl hz=>⟨hk.block k hkl hz,?_⟩⟩
 ·rintro k ⟨hz,hlt⟩
  rcases hz with hz | hz
  ·exact ⟨(h.zin k hz).1,hlt⟩
  ·exact ⟨Nat.le_trans h.size hz,hlt⟩
 ·rintro ⟨hq,_⟩
  rcases hq with hq | hq
  ·exact hz hq
  ·omega
def rdd (s:Sv):Sv:=⟨s.td,s.os,s.rcs,s.ls.map kap,frmB (stB s.td s.os s.rcs s.ls)⟩
def rdd' (s:Sv):Sv:=⟨s.td,osS s.os,prtS s.rcs,s.ls.map kap,frmB (stB s.td s.os s.rcs s.ls)⟩
theorem cpt_bytes {s:Sv} (hf:Fac s) (hs:Snv s):(stB s.td s.os s.rcs s.ls).length≤10000:=(Tiny.mk hf.td hf.ok hf.room hf.good hs.sml hf.rc).bytes
theorem told_back {s:Sv} (hf:Fac s) (hs:Snv s):rdState (stB s.td s.os s.rcs s.ls)=some (s.td,s.ls.map kap,osS s.os,prtS s.rcs):=state_told hf.td hf.ok hf.room hf.good hs.snd hf.rc hs.sml.ord
theorem stepL_state {s:Sv} (hf:Fac s) (hs:Snv s):stepL sNil ⟨(stB s.td s.os s.rcs s.ls).toArray⟩=rdd' s:=by
 have e1:(⟨(stB s.td s.os s.rcs s.ls).toArray⟩:ByteArray).data.toList=stB s.td s.os s.rcs s.ls:=by simp
 unfold stepL
 rw [e1,if_pos ⟨rfl,rfl⟩,told_back hf hs]
 rfl
theorem open_state {s:Sv} (hf:Fac s) (hs:Snv s) (w:World) (hg:Gl w) (hm:GmU w.heap.size w) :
  Calls Tryz.prog 15 #[.string ⟨(frmB (stB s.td s.os s.rcs s.ls)).toArray⟩] w fun e w'=>∃ Lb Z,e=.returned (.tuple #[.pointer (some ⟨Lb,0,none⟩),.int .i64 (((frmB (stB s.td s.os s.rcs s.ls)).length:Nat):Int)])∧Kv w.heap.size w w' Z Lb (rdd s):=by
 have hb:=cpt_bytes hf hs
 have hl:=frmB_len (stB s.td s.os s.rcs s.ls) (by omega)
 have hpos:=List.length_pos_iff.2 (frmB_ne (stB s.td s.os s.rcs s.ls))
 have e1:(⟨(frmB (stB s.td s.os s.rcs s.ls)).toArray⟩:ByteArray).data.toList=frmB (stB s.td s.os s.rcs s.ls):=by simp
 have e2:(⟨(frmB (stB s.td s.os s.rcs s.ls)).toArray⟩:ByteArray).size=(frmB (stB s.td s.os s.rcs s.ls)).length:=by show (frmB (stB s.td s.os s.rcs s.ls)).toArray.size=_;simp
 obtain ⟨n,hn⟩:=frP_any (c:=stB s.td s.os s.rcs s.ls) (by omega) []
 rw [List.append_nil] at hn
 have hst:=stepL_state hf hs
 have hrp:rpS (frmB (stB s.td s.os s.rcs s.ls)).length (frmB (stB s.td s.os s.rcs s.ls)) sNil=rdd' s:=by
  obtain ⟨f,hfe⟩:∃ f,(frmB (stB s.td s.os s.rcs s.ls)).length=f+1:=⟨_,(Nat.succ_pred_eq_of_pos hpos).symm⟩
  have h1:rpS (f+1) (frmB (stB s.td s.os s.rcs s.ls)) sNil=rpS f (frmB (stB s.td s.os s.rcs s.ls)) (rdd' s):=by
   show (if (0:Nat)<(frmB (stB s.td s.os s.rcs s.ls)).length then (match frP ((frmB (stB s.td s.os s.rcs s.ls)).drop 0) with | none=>sNil | some (c,_)=>if (stepL sNil ⟨c.toArray⟩).lg.length=0 then stepL sNil ⟨c.toArray⟩ else rpS f (frmB (stB s.td s.os s.rcs s.ls)) (stepL sNil ⟨c.toArray⟩)) else sNil)=_
   rw [if_pos hpos,List.drop_zero,hn]
   dsimp only
   rw [hst,if_neg (by show (frmB (stB s.td s.os s.rcs s.ls)).length≠0;omega)]
  rw [hfe,h1]
  cases f with
  | zero=>rfl
  | succ f =>
   show (if (frmB (stB s.td s.os s.rcs s.ls)).length<(frmB (stB s.td s.os s.rcs s.ls)).length then _ else _)=_
   rw [if_neg (by omega)]
 have hway:WayS (frmB (stB s.td s.os s.rcs s.ls)) (fun x=>x=sNil∨x=rdd' s):=⟨fun x hx=>by
  rcases hx with rfl | rfl
  ·show (0:Nat)≤_;omega
  ·show (frmB (stB s.td s.os s.rcs s.ls)).length≤_;omega,fun x c n' hx hlt hfr=>by
  rcases hx with rfl | rfl
  ·have hd:(frmB (stB s.td s.os s.rcs s.ls)).drop sNil.lg.length=frmB (stB s.td s.os s.rcs s.ls):=rfl
   rw [hd,hn] at hfr
   cases hfr
   refine ⟨by omega,fun _ _ td ls os rcs hr=>?_,Or.inr hst⟩
   rw [told_back hf hs] at hr
   cases hr
   exact good_read hf.good (fun o ho=>(hs.sml.ord o ho).1)
  ·exact absurd hlt (by show ¬ (frmB (stB s.td s.os s.rcs s.ls)).length<_;omega)⟩
 have h:=openS_any w hg hm ⟨(frmB (stB s.td s.os s.rcs s.ls)).toArray⟩ (by rw [e2];omega) (fun x=>x=sNil∨x=rdd' s) (Or.inl rfl) (by rw [e1];exact hway)
 rw [e1,e2,hrp] at h
 refine h.mono ?_
 rintro e w' ⟨Lb,Z,he,hk⟩
 exact ⟨Lb,Z,he,Kv.same hk (good_kap hf.good) (fun o ho=>(hs.sml.ord o ho).1) hf.rc⟩
structure Ar (a b:Sv):Prop where
 td:a.td=b.td
 os:a.os=b.os
 rcs:a.rcs=b.rcs
 ls:a.ls.map kap=b.ls.map kap
theorem Ar.step {a b:Sv} (h:Ar a b) (c:Pl.Cmd):Ar (stepV a c) (stepV b c)∧repV a c=repV b c:=by
 obtain ⟨a1,a2,a3,a4,a5⟩:=stepR_alike (rcs:=a.rcs) (td:=a.td) (os:=a.os) h.ls c
 unfold stepV repV
 rw [← h.td,← h.os,← h.rcs]
 exact ⟨⟨a2,a3,a4,a5⟩,a1⟩
theorem Ar.lg {a b:Sv} (h:Ar a b) (hl:a.lg=b.lg) (c:Pl.Cmd):(stepV a c).lg=(stepV b c).lg:=by
 have:=(h.step c).2
 show lgC a.lg c (repV a c)=lgC b.lg c (repV b c)
 rw [this,hl]
theorem Ar.lkB {a b:Sv} (h:Ar a b):∀ k,lkB a k=lkB b k
 | 0=>rfl
 | k+1=>by
  show Go.Proofs.YtgcedalggnmooabGreatDoor.lkB a k++_++_=Go.Proofs.YtgcedalggnmooabGreatDoor.lkB b k++_++_
  rw [h.lkB k,(h.step _).2]
theorem Ar.spB {a b:Sv} (h:Ar a b):∀ k,spB a k=spB b k
 | 0=>h.lkB 14
 | k+1=>by
  show Go.Proofs.YtgcedalggnmooabGreatDoor.spB a k++_++_=Go.Proofs.YtgcedalggnmooabGreatDoor.spB b k++_++_
  rw [h.spB k,(h.step _).2]
theorem lotN_kap (l:L):lotN (kap l)=lotN l:=by
 unfold lotN kap
 dsimp only
 rw [dpar_dpar]
theorem stL_kap (ls:List L):stL (ls.map kap)=stL ls:=by
 have e:(fun i=>((ls.map kap).getD i L0).id)=fun i=>(ls.getD i L0).id:=by funext i;rw [kap_get];rfl
 have e2:(fun i=>lotN ((ls.map kap).getD i L0))=fun i=>lotN (ls.getD i L0):=by funext i;rw [kap_get,lotN_kap]
 unfold stL
 rw [e,e2,List.length_map]
theorem Ar.cpt {a b:Sv} (h:Ar a b):(cpt a).lg=(cpt b).lg:=by
 have h1:stL a.ls=stL b.ls:=by rw [← stL_kap a.ls,← stL_kap b.ls,h.ls]
 have h2:a.ls.length=b.ls.length:=by have:=congrArg List.length h.ls;simpa using this
 show frmB (stB _ _ _ _)=frmB (stB _ _ _ _)
 unfold stB stN
 rw [h1,h2,h.td,h.os,h.rcs]
structure Thr (B:Nat) (w0 w:World) (Zp:Nat→Prop) (Lp:Nat) (sp:Sv) (Zq:Nat→Prop) (Lq:Nat) (sq:Sv) (Zr:Nat→Prop) (Lr:Nat) (sr:Sv):Prop where
 pq:Two B w0 w Zp Lp sp Zq Lq sq
 pr:Two B w0 w Zp Lp sp Zr Lr sr
 qr:Two B w0 w Zq Lq sq Zr Lr sr
section
variable {B:Nat} {w0 w w':World} {Zp Zq Zr Zp':Nat→Prop} {Lp Lq Lr:Nat} {sp sq sr sp':Sv}
theorem Thr.turn (h:Thr B w0 w Zp Lp sp Zq Lq sq Zr Lr sr):Thr B w0 w Zq Lq sq Zr Lr sr Zp Lp sp:=⟨h.qr,h.pq.swap,h.pr.swap⟩
theorem Thr.step (h:Thr B w0 w Zp Lp sp Zq Lq sq Zr Lr sr) (hk:Kv B w0 w' Zp' Lp sp') (hn:Kn Zp w Zp' w'):Thr B w0 w' Zp' Lp sp' Zq Lq sq Zr Lr sr :=
 ⟨h.pq.stepP hk hn,h.pr.stepP hk hn,⟨(h.pq.stepP hk hn).q,(h.pr.stepP hk hn).q,h.qr.dis⟩⟩
theorem Thr.below (h:Thr B w0 w Zp Lp sp Zq Lq sq Zr Lr sr) (hb:Below w.heap.size w w'):Thr B w0 w' Zp Lp sp Zq Lq sq Zr Lr sr:=⟨h.pq.below hb,h.pr.below hb,h.qr.below hb⟩
theorem Two.third (h:Two B w0 w Zp Lp sp Zq Lq sq) (k:Kv w.heap.size w w' Zr Lr sr):Thr B w0 w' Zp Lp sp Zq Lq sq Zr Lr sr:=⟨h.below k.old,h.p.fresh k,h.q.fresh k⟩
end
theorem Scr.below {w w':World} {b off len:Nat} {X:Nat→Nat→Int} (h:Scr w b off len X) (hb:Below w.heap.size w w'):Scr w' b off len X :=
 ⟨Nat.lt_of_lt_of_le h.lt hb.size,h.raw,fun i hi f hf=>(hb.cell (p:=⟨b,off+i * 5+f,none⟩) h.lt).trans (h.cell i hi f hf)⟩
end Go.Proofs.YtgcedalggnmooabGreatDoor
namespace Go.Proofs.YtgcedalggnmooabGreatDoor
open Go.RowKit
theorem num_two {n:Nat} (h:¬ n<128) (h2:n<16384):Pl.num n=[UInt8.ofNat (n % 128+128),UInt8.ofNat (n / 128)]:=by
 rw [Pl.num_ge h,Pl.num_lt (by omega)]
set_option maxHeartbeats 1600000 in
theorem alone_any (c:List UInt8) (hc:c.length≤10000) (h13:c.getD 0 0=13) (w:World) :
  Calls Tryz.prog 19 #[.string ⟨(frmB c).toArray⟩] w fun e w'=>e=.returned (.bool true)∧w'=w:=by
 have hpos:0<c.length:=by
  cases c with
  | nil=>cases h13
  | cons b r=>simp
 obtain ⟨T,HT⟩:∃ T:ByteArray,Hid (T=⟨(frmB c).toArray⟩):=⟨_,rfl⟩
 have hTl:T.data.toList=frmB c:=by rw [HT.out]
 have hTs:T.size=(frmB c).length:=by rw [HT.out];show (frmB c).toArray.size=_;simp
 have hget:∀ i (h:i<T.size),(T[i]).toNat=((frmB c).getD i 0).toNat:=fun i h=>by rw [← ba_getD T i h,hTl]
 have h4:=chkB_len (Pl.num c.length++c)
 rw [← HT.out]
 by_cases hn:c.length<128
 ·have e:frmB c=UInt8.ofNat c.length :: (c++chkB (Pl.num c.length++c)):=by unfold frmB;rw [Pl.num_lt hn];rfl
  have hsz:T.size=c.length+5:=by rw [hTs,e];simp [h4]
  have hT1:1<T.size:=by omega
  have hT0:0<T.size:=by omega
  have g0:(T[0]'hT0).toNat=c.length:=by rw [hget 0 hT0,e];show (UInt8.ofNat c.length).toNat=_;rw [UInt8.toNat_ofNat'];omega
  have g1:(T[1]'hT1).toNat=13:=by
   rw [hget 1 hT1,e]
   show ((c++_).getD 0 0).toNat=13
   rw [List.getD_eq_getElem?_getD,List.getElem?_append_left hpos,← List.getD_eq_getElem?_getD,h13];rfl
  clear hget hTl hTs e h4 h13 HT
  generalize c.length=n at *
  go_enter Tryz.func19,Tryz.ntmps19
  go_wp2_with fail
  go_loopw [3,4] (fun nn ii wr=>nn=.int .i64 0∧ii=.int .i64 0∧wr=w) (fun _ ii _=>3 - (intOf ii).toNat)
  case atStart=>exact ⟨rfl,rfl,rfl⟩
  case round =>
   obtain ⟨rfl,rfl,rfl⟩:=hrel
   go_wp2_with fail
   go_ret
   exact ⟨rfl,rfl⟩
 ·have e:frmB c=UInt8.ofNat (c.length % 128+128) :: UInt8.ofNat (c.length / 128) :: (c++chkB (Pl.num c.length++c)):=by unfold frmB;rw [num_two hn (by omega)];rfl
  have hsz:T.size=c.length+6:=by rw [hTs,e];simp [h4]
  have hT2:2<T.size:=by omega
  have hT1:1<T.size:=by omega
  have hT0:0<T.size:=by omega
  have g0:(T[0]'hT0).toNat=c.length % 128+128:=by rw [hget 0 hT0,e];show (UInt8.ofNat (c.length % 128+128)).toNat=_;rw [UInt8.toNat_ofNat'];omega
  have g1:(T[1]'hT1).toNat=c.length / 128:=by rw [hget 1 hT1,e];show (UInt8.ofNat (c.length / 128)).toNat=_;rw [UInt8.toNat_ofNat'];omega
  have g2:(T[2]'hT2).toNat=13:=by
   rw [hget 2 hT2,e]
   show ((c++_).getD 0 0).toNat=13
   rw [List.getD_eq_getElem?_getD,List.getElem?_append_left hpos,← List.getD_eq_getElem?_getD,h13];rfl
  clear hget hTl hTs e h4 h13 HT
  generalize c.length=n at *
  obtain ⟨a,b,HAB,ha,hb,hb0⟩:∃ a b:Nat,n=a+128 * b∧a<128∧b<128∧0<b:=⟨n % 128,n / 128,by omega,by omega,by omega,by omega⟩
  have ea:n % 128=a:=by omega
  have eb:n / 128=b:=by omega
  rw [ea] at g0
  rw [eb] at g1
  clear ea eb hn
  go_enter Tryz.func19,Tryz.ntmps19
  go_wp2_with fail
  go_loopw [3,4] (fun nn ii wr=>(nn=.int .i64 0∧ii=.int .i64 0∧wr=w)∨(nn=.int .i64 (a:Int)∧ii=.int .i64 1∧wr=w)) (fun _ ii _=>3 - (intOf ii).toNat)
  case atStart=>exact Or.inl ⟨rfl,rfl,rfl⟩
  case round =>
   rcases hrel with ⟨rfl,rfl,rfl⟩ | ⟨rfl,rfl,rfl⟩
   ·go_wp2_with fail
    refine ⟨Or.inr ⟨?_,rfl,trivial⟩,by decide⟩
    have:(a:Int) % 128=a:=by omega
    rw [this]
   ·go_wp2_with fail
    go_ret
    exact ⟨rfl,rfl⟩
end Go.Proofs.YtgcedalggnmooabGreatDoor
