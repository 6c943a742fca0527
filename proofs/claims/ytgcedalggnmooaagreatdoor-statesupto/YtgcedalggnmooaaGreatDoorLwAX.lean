import Derived.Test.YtgcedalggnmooaaGreatDoorDc5X
import Derived.Test.YtgcedalggnmooaaGreatDoorHnX
import Derived.Test.YtgcedalggnmooaaGreatDoorSmlX
import Derived.Deep.RegionHeld3
import Derived.Test.YtgcedalggnmooaaGreatDoorStwX
import Derived.Test.YtgcedalggnmooaaGreatDoorSaX
set_option linter.unusedSimpArgs false
set_option linter.unusedVariables false
set_option maxRecDepth 100000
namespace Go.Proofs.YtgcedalggnmooaaGreatDoor
open Go.RowKit
structure InvS (B:Nat) (w0 w:World) (Q N:Nat):Prop where
 old:Below B w0 w
 size:B≤w.heap.size
 two:4≤B
 gl:Gl w
 q:B≤Q
 both:∃ Lb R Zp Zr td ls os rcs rec,w.heap[Q]?=some (.cells #[.pointer (some ⟨Lb,0,none⟩),.pointer (some ⟨R,0,none⟩)] 46 (0,0))∧PL rec.data.toList os rcs Zp w Lb td ls∧RI os rcs Zr w R td rec ls ∧
  (∀ k,Zp k→B≤k∧k<w.heap.size∧k≠Q∧¬ Zr k)∧(∀ k,Zr k→B≤k∧k<w.heap.size∧k≠Q)∧rec.size≤N∧Good os ls∧Sml os ls
theorem InvS.below {B Q N:Nat} {w0 w w':World} (h:InvS B w0 w Q N) (hb:Below w.heap.size w w'):InvS B w0 w' Q N:=by
 obtain ⟨Lb,R,Zp,Zr,td,ls,os,rcs,rec,h1,h2,h3,h4,h5,h6⟩:=h.both
 have hs:=hb.size
 exact ⟨h.old.trans (hb.mono h.size),Nat.le_trans h.size hs,h.two,h.gl.below hb,h.q,Lb,R,Zp,Zr,td,ls,os,rcs,rec,(hb.block Q (blk_lt h1)).trans h1,h2.below hb,h3.below hb,
  fun k hk=>⟨(h4 k hk).1,by have:=(h4 k hk).2.1;omega,(h4 k hk).2.2⟩,fun k hk=>⟨(h5 k hk).1,by have:=(h5 k hk).2.1;omega,(h5 k hk).2.2⟩,h6⟩
theorem InvS.step {rcs:List (Nat × Nat)} {B Q N n Lb R td':Nat} {w0 w2 w3 w5:World} {Zp Zr:Nat→Prop} {ls':List L} {os':List O} {rec':ByteArray} (ho:Below B w0 w2) (hsz:B≤w2.heap.size) (htwo:4≤B) (hgl:Gl w2) (hQ:B≤Q)
  (h1:w2.heap[Q]?=some (.cells #[.pointer (some ⟨Lb,0,none⟩),.pointer (some ⟨R,0,none⟩)] 46 (0,0)))
  (h4:∀ k,Zp k→B≤k∧k<w2.heap.size∧k≠Q∧¬ Zr k) (h5:∀ k,Zr k→B≤k∧k<w2.heap.size∧k≠Q)
  (hk3:Kp Zp w2 w3) (hpl:PL rec'.data.toList os' rcs (Zn Zp w2) w3 Lb td' ls') (hk5:Kp Zr w3 w5) (hri:RI os' rcs (Zn Zr w3) w5 R td' rec' ls') (hrec:rec'.size≤N+n) (hgo:Good os' ls'∧Sml os' ls'):InvS B w0 w5 Q (N+n):=by
 have hQl:=blk_lt h1
 have hQp:¬ Zp Q:=fun h=>(h4 Q h).2.2.1 rfl
 have hQr:¬ Zr Q:=fun h=>(h5 Q h).2.2 rfl
 have hs3:=hk3.size
 have hs5:=hk5.size
 have h3Q:=(hk3.block Q hQl hQp).trans h1
 have h5Q:=(hk5.block Q (blk_lt h3Q) hQr).trans h3Q
 have old3:Below B w2 w3:=⟨hk3.os,hk3.tape,hk3.output,hk3.size,fun k hk=>hk3.block k (by omega) (fun h=>by have:=(h4 k h).1;omega)⟩
 have old5:Below B w3 w5:=⟨hk5.os,hk5.tape,hk5.output,hk5.size,fun k hk=>hk5.block k (by omega) (fun h=>by have:=(h5 k h).1;omega)⟩
 refine ⟨(ho.trans old3).trans old5,by omega,htwo,(hgl.kp hk3 (fun h=>by have:=(h4 2 h).1;omega) (fun h=>by have:=(h4 3 h).1;omega)).kp hk5 (fun h=>by have:=(h5 2 h).1;omega) (fun h=>by have:=(h5 3 h).1;omega),hQ,
  Lb,R,fun k=>Zn Zp w2 k∧k<w3.heap.size,fun k=>Zn Zr w3 k∧k<w5.heap.size,td',ls',os',rcs,rec',h5Q,?_,hri.bound,?_,?_,hrec,hgo⟩
 ·refine hpl.bound.congr (fun k hk=>hk5.block k hk.2 (fun hz=>?_))
  rcases hk.1 with h | h
  ·exact (h4 k h).2.2.2 hz
  ·have:=(h5 k hz).2.1;omega
 ·rintro k ⟨hk,hlt⟩
  refine ⟨?_,by omega,?_,?_⟩
  ·rcases hk with h | h
   ·exact (h4 k h).1
   ·omega
  ·rcases hk with h | h
   ·exact (h4 k h).2.2.1
   ·omega
  ·rintro ⟨hz,_⟩
   rcases hk with h | h
   ·rcases hz with hz | hz
    ·exact (h4 k h).2.2.2 hz
    ·have:=(h4 k h).2.1;omega
   ·rcases hz with hz | hz
    ·have:=(h5 k hz).2.1;omega
    ·omega
 ·rintro k ⟨hk,hlt⟩
  refine ⟨?_,hlt,?_⟩
  ·rcases hk with h | h
   ·exact (h5 k h).1
   ·omega
  ·rcases hk with h | h
   ·exact (h5 k h).2.2
   ·omega
theorem InvS.grow {B Q N N':Nat} {w0 w:World} (h:InvS B w0 w Q N) (hN:N≤N'):InvS B w0 w Q N':=by
 obtain ⟨a,b,c,d,e,Lb,R,Zp,Zr,td,ls,os,rcs,rec,h1,h2,h3,h4,h5,h6,h7⟩:=h
 exact ⟨a,b,c,d,e,Lb,R,Zp,Zr,td,ls,os,rcs,rec,h1,h2,h3,h4,h5,Nat.le_trans h6 hN,h7⟩
theorem begun_invS (w:World) (hg:Gl w):InvS w.heap.size w (begunW w) (w.heap.size+1+1+1+1+1+1) 0:=by
 have hb:Below w.heap.size w (begunW w):=by
  unfold begunW
  exact (((((((Below.refl _ _).alloc (Nat.le_refl _) _).alloc (by simp) _).alloc (by first | (simp;done) | (simp;omega)) _).alloc (by first | (simp;done) | (simp;omega)) _).alloc (by first | (simp;done) | (simp;omega)) _).alloc (by first | (simp;done) | (simp;omega)) _).alloc (by first | (simp;done) | (simp;omega)) _
 have hsz:(begunW w).heap.size=w.heap.size+7:=by unfold begunW;simp
 have b0:(begunW w).heap[w.heap.size]?=some (.map #[] 0):=by
  unfold begunW
  exact alloc_old (alloc_old (alloc_old (alloc_old (alloc_old (alloc_old (heap_alloc_new w _) (by first | (simp;done) | (simp;omega))) (by first | (simp;done) | (simp;omega))) (by first | (simp;done) | (simp;omega))) (by first | (simp;done) | (simp;omega))) (by first | (simp;done) | (simp;omega))) (by first | (simp;done) | (simp;omega))
 have b1:(begunW w).heap[w.heap.size+1]?=some (.map #[] 0):=by
  unfold begunW
  exact alloc_old (alloc_old (alloc_old (alloc_old (alloc_old (heap_alloc_new' _ _ _ (by first | (simp;done) | (simp;omega))) (by first | (simp;done) | (simp;omega))) (by first | (simp;done) | (simp;omega))) (by first | (simp;done) | (simp;omega))) (by first | (simp;done) | (simp;omega))) (by first | (simp;done) | (simp;omega))
 have b2:(begunW w).heap[w.heap.size+2]?=some (.map #[] 0):=by
  unfold begunW
  exact alloc_old (alloc_old (alloc_old (alloc_old (heap_alloc_new' _ _ _ (by first | (simp;done) | (simp;omega))) (by first | (simp;done) | (simp;omega))) (by first | (simp;done) | (simp;omega))) (by first | (simp;done) | (simp;omega))) (by first | (simp;done) | (simp;omega))
 have b3:(begunW w).heap[w.heap.size+3]?=some (.cells #[.int .i64 0,.slice none 0 0,.map (some w.heap.size),.map (some (w.heap.size+1)),.map (some (w.heap.size+1+1))] 117):=by
  unfold begunW
  exact alloc_old (alloc_old (alloc_old (heap_alloc_new' _ _ _ (by first | (simp;done) | (simp;omega))) (by first | (simp;done) | (simp;omega))) (by first | (simp;done) | (simp;omega))) (by first | (simp;done) | (simp;omega))
 have b4:(begunW w).heap[w.heap.size+4]?=some (.cells #[.pointer (some ⟨w.heap.size+1+1+1,0,none⟩),.slice none 0 0] 91):=by
  unfold begunW
  exact alloc_old (alloc_old (heap_alloc_new' _ _ _ (by first | (simp;done) | (simp;omega))) (by first | (simp;done) | (simp;omega))) (by first | (simp;done) | (simp;omega))
 have b5:(begunW w).heap[w.heap.size+5]?=some (.cells #[.int .i64 0,.slice none 0 0,.slice none 0 0,.slice none 0 0,.string ⟨#[]⟩] 42):=by
  unfold begunW
  exact alloc_old (heap_alloc_new' _ _ _ (by first | (simp;done) | (simp;omega))) (by simp)
 have b6:(begunW w).heap[w.heap.size+6]?=some (.cells #[.pointer (some ⟨w.heap.size+1+1+1+1,0,none⟩),.pointer (some ⟨w.heap.size+1+1+1+1+1,0,none⟩)] 46):=by
  unfold begunW
  exact heap_alloc_new' _ _ _ (by simp)
 generalize begunW w=W at *
 have hp:PV [] [] W (w.heap.size+1+1+1) ⟨w.heap.size+1+1,w.heap.size,w.heap.size+1⟩ (.slice none 0 0) 0 [] [] []:=⟨b3,⟨⟨.map [],owns_nil b2,⟨rfl,fun a b _ _=>rfl,fun kl h=>by cases h⟩⟩,⟨by simp,by simp,by simp⟩,⟨.map [],owns_nil b0,⟨rfl,fun n _=>rfl,fun n _=>rfl,fun kl h=>by cases h⟩⟩,⟨.map [],owns_nil b1,⟨rfl,fun a b _ _=>rfl,fun a b _ _=>rfl⟩⟩,(by show w.heap.size+1+1≠w.heap.size;omega),(by show w.heap.size+1+1≠w.heap.size+1;omega),(by show w.heap.size≠w.heap.size+1;omega)⟩,World.ownsRow_nil _ _ _ _,rfl,rfl,fun i h=>absurd h (by simp),fun i h=>absurd h (by simp),by simp,by omega,fun l h=>absurd h (by simp),by simp⟩
 have hr:RV [] [] ⟨.slice none 0 0,[],.slice none 0 0,[],[]⟩ W (w.heap.size+1+1+1+1+1) (.slice none 0 0) 0 ⟨#[]⟩ [] []:=⟨b5,World.ownsRow_nil _ _ _ _,rfl,⟨rfl,rfl⟩,⟨World.ownsRow_nil _ _ _ _,rfl,fun i h=>absurd h (by simp),⟨World.ownsRow_nil _ _ _ _,rfl,fun i h=>absurd h (by simp),fun g h=>by cases h⟩⟩,by omega,fun l h=>absurd h (by simp),by simp,fam_nil,⟨by simp,by simp,by simp⟩⟩
 refine ⟨hb,by omega,hg.2.2,hg.below hb,by omega,w.heap.size+1+1+1+1,w.heap.size+1+1+1+1+1,fun k=>w.heap.size≤k∧k≤w.heap.size+4,fun k=>k=w.heap.size+5,0,[],[],[],⟨#[]⟩,b6,?_,?_,?_,?_,?_,good_nil,sml_nil⟩
 ·refine ⟨w.heap.size+1+1+1,fun k=>w.heap.size≤k∧k≤w.heap.size+3,.slice none 0 0,b4,by omega,fun h=>by omega,fun k h=>by omega,⟨_,_,_,_,hp,⟨by omega,by show _∧_;simp only [];omega,by show _∧_;simp only [];omega,by show _∧_;simp only [];omega,(fun g h=>by cases h),(fun k h=>absurd h (by simp)),(fun k h=>absurd h (by simp))⟩⟩,⟨World.ownsRow_nil _ _ _ _,fun _=>rfl⟩,fun k h=>by cases h⟩
 ·refine ⟨_,_,_,hr,rfl,(fun g h=>by cases h),fun g h=>?_⟩
  rcases h with h | ⟨i,hi,_⟩ | h | ⟨i,hi,_⟩
  ·cases h
  ·exact absurd hi (by simp)
  ·cases h
  ·exact absurd hi (by simp)
 ·intro k h;refine ⟨by omega,by omega,by omega,by omega⟩
 ·intro k h;refine ⟨by omega,by omega,by omega⟩
 ·exact Nat.le_refl _
set_option maxHeartbeats 800000 in
theorem begun_anyS (w:World) (hg:Gl w) :
  Calls Tryz.prog 15 #[] w fun e w'=>∃ Q,e=.returned (.tuple #[.pointer (some ⟨Q,0,none⟩),.bool true])∧InvS w.heap.size w w' Q 0:=by
 have hmm:=@run_makeMap Tryz.prog
 go_enter Tryz.func15,Tryz.ntmps15
 go_wp2_with (first | (go_at_call 36;go_in) | (go_at_call 49;go_in))
 go_ret2
 exact ⟨_,rfl,begun_invS w hg⟩
set_option maxHeartbeats 1600000 in
theorem playR_anyS {B Q N:Nat} {w0 w:World} (h:InvS B w0 w Q N) (hN:N≤35184372088832) (s:ByteArray) (hs:s.size≤2097143) :
  Calls Tryz.prog 17 #[.pointer (some ⟨Q,0,none⟩),.agg #[.int .i64 1,.int .i64 0,.int .i64 0,.string s]] w fun e w'=>e=.returned (.bool true)∧InvS B w0 w' Q (N+(s.size+13)):=by
 have ha:=al1 w (.cells #[.int .i64 1,.int .i64 0,.int .i64 0,.string s] 29)
 have hop:=heap_alloc_new w (.cells #[.int .i64 1,.int .i64 0,.int .i64 0,.string s] 29)
 obtain ⟨hold0,hsz0,htwo,hgl0,hQ,Lb,R,Zp,Zr,td,ls,os,rcs,rec,hqo,hpl0,hri0,h40,h50,hrec,hgo,hsm⟩:=h
 have hab:Below w.heap.size w (w.alloc (.cells #[.int .i64 1,.int .i64 0,.int .i64 0,.string s] 29)).drew:=ha.drew
 have hq:=(hab.block Q (blk_lt hqo)).trans hqo
 have hpl:=hpl0.below hab
 have hri:=hri0.below hab
 have hgl:=hgl0.below hab
 have hold:=hold0.trans (hab.mono hsz0)
 have hsz:=Nat.le_trans hsz0 hab.size
 have h4:∀ k,Zp k→B≤k∧k<(w.alloc (.cells #[.int .i64 1,.int .i64 0,.int .i64 0,.string s] 29)).drew.heap.size∧k≠Q∧¬ Zr k:=fun k hk=>⟨(h40 k hk).1,Nat.lt_of_lt_of_le (h40 k hk).2.1 hab.size,(h40 k hk).2.2⟩
 have h5:∀ k,Zr k→B≤k∧k<(w.alloc (.cells #[.int .i64 1,.int .i64 0,.int .i64 0,.string s] 29)).drew.heap.size∧k≠Q:=fun k hk=>⟨(h50 k hk).1,Nat.lt_of_lt_of_le (h50 k hk).2.1 hab.size,(h50 k hk).2.2⟩
 have hzw1:¬ Zp w.heap.size:=fun h=>Nat.lt_irrefl _ (h40 _ h).2.1
 have hzw2:¬ Zr w.heap.size:=fun h=>Nat.lt_irrefl _ (h50 _ h).2.1
 have hnw:¬ Zp w.heap.size:=hzw1
 have hrl:rec.data.toList.length=rec.size:=by rw [Array.length_toList];rfl
 have HH:=hide (handlePR_any hpl hgo hgl s (by omega) (fun _=>by rw [hrl];omega))
 have q0:(w.alloc (.cells #[.int .i64 1,.int .i64 0,.int .i64 0,.string s] 29)).cell? ⟨Q,0,none⟩=some (.pointer (some ⟨Lb,0,none⟩)):=by
  have:(w.alloc (.cells #[.int .i64 1,.int .i64 0,.int .i64 0,.string s] 29)).heap[Q]?=_:=hq
  rw [blk_cell this];rfl
 have o3:(w.alloc (.cells #[.int .i64 1,.int .i64 0,.int .i64 0,.string s] 29)).cell? ⟨w.heap.size,3,none⟩=some (.string s):=by rw [blk_cell hop];rfl
 have o0:(w.alloc (.cells #[.int .i64 1,.int .i64 0,.int .i64 0,.string s] 29)).cell? ⟨w.heap.size,0,none⟩=some (.int .i64 1):=by rw [blk_cell hop];rfl
 go_enter Tryz.func17,Tryz.ntmps17
 go_wp2_with fail
 have hQlt:Q<(w.alloc (.cells #[.int .i64 1,.int .i64 0,.int .i64 0,.string s] 29)).heap.size:=blk_lt hq
 have hwlt:w.heap.size<(w.alloc (.cells #[.int .i64 1,.int .i64 0,.int .i64 0,.string s] 29)).heap.size:=by simp
 have hnQ:Hid (¬ Zp Q):=fun h=>(h4 Q h).2.2.1 rfl
 have hnW:Hid (¬ Zp w.heap.size):=hnw
 have hq1:(w.alloc (.cells #[.int .i64 1,.int .i64 0,.int .i64 0,.string s] 29)).cell? ⟨Q,1,none⟩=some (.pointer (some ⟨R,0,none⟩)):=by
  have:(w.alloc (.cells #[.int .i64 1,.int .i64 0,.int .i64 0,.string s] 29)).heap[Q]?=_:=hq
  rw [blk_cell this];rfl
 go_region_held3 (fun w'=>w'.cell? ⟨Q,0,none⟩=some (.pointer (some ⟨Lb,0,none⟩))∧w'.cell? ⟨w.heap.size,3,none⟩=some (.string s)) (go_keep)
  (first
   | (go_at_call 23;refine (HH.out).mono ?_;rintro e w3 ⟨hk3,rfl,hpl3⟩;have hqq:=hk3.block Q hQlt hnQ.out;have hqw:=hk3.block w.heap.size hwlt hnW.out;have m0:=(World.cell?_of_block (a:=⟨Q,0,none⟩) hqq).trans q0;have m1:=(World.cell?_of_block (a:=⟨w.heap.size,3,none⟩) hqw).trans o3;have m2:=(World.cell?_of_block (a:=⟨Q,1,none⟩) hqq).trans hq1))
 have hroom:ls.length≤30:=by obtain ⟨v,fs,ro,hP,_⟩:=hri;exact hP.room
 have hri3:RI os rcs Zr w3.drew R td rec ls:=(hri.congr (fun k hk=>hk3.block k (h5 k hk).2.1 (fun hz=>(h4 k hz).2.2.2 hk))).below (drewB w3)
 have HR:=hide (handleRR_any hri3 hgo (by omega) s hs)
 have hs3:Hid ((w.alloc (.cells #[.int .i64 1,.int .i64 0,.int .i64 0,.string s] 29)).drew.heap.size≤w3.heap.size):=hk3.size
 have hQ3:Hid (Q<w3.heap.size):=Nat.lt_of_lt_of_le hQlt hs3.out
 have hW3:Hid (w.heap.size<w3.heap.size):=Nat.lt_of_lt_of_le hwlt hs3.out
 have hnQr:Hid (¬ Zr Q):=fun h=>(h5 Q h).2.2 rfl
 have hnWr:Hid (¬ Zr w.heap.size):=hzw2
 have HK3:=hide hk3
 have HPL:=hide hpl3
 have H4:=hide h4
 have H5:=hide h5
 have hok:∀ l ∈ ls,L.Ok l:=by obtain ⟨v,fs,ro,hP,_⟩:=hri;exact hP.ok
 have HGO:=hide (And.intro (good_stepR (rcs:=rcs) (td:=td) hgo hroom s.data.toList) (sml_stepR (rcs:=rcs) (td:=td) hsm hok s.data.toList))
 have HLX:=hide (fun rec' (hx:RecX rec s rec' (stepR rcs td os ls (Pl.cmd s.data.toList)).1)=>lgX_rec hx)
 generalize stepR rcs td os ls (Pl.cmd s.data.toList)=st at HR HPL HGO HLX ⊢
 obtain ⟨sb,td',os',rs',ls'⟩:=st
 clear hqq hqw q0 o3 o0 hq1 hri3 hk3 hpl3 h4 h5 h40 h50 HH m0 hroom hok
 go_wp2_with fail
 go_region_held3 (fun w'=>w'.cell? ⟨Q,1,none⟩=some (.pointer (some ⟨R,0,none⟩))∧w'.cell? ⟨w.heap.size,3,none⟩=some (.string s)) (go_keep)
  (first
   | (go_at_call 37;refine (HR.out).mono ?_;rintro e w5 ⟨rfl,hk5,rec',hrx5,hri5⟩;have hr5:=hrx5.size;have HL5:=hide (HLX.out rec' hrx5);have hqq:=hk5.block Q hQ3.out hnQr.out;have hqw:=hk5.block w.heap.size hW3.out hnWr.out;have r1:=(World.cell?_of_block (a:=⟨Q,1,none⟩) hqq).trans m2;have r2:=(World.cell?_of_block (a:=⟨w.heap.size,3,none⟩) hqw).trans m1))
 clear hqq hqw r1 r2 m1 m2
 go_wp2_with fail
 go_ret
 refine ⟨rfl,?_⟩
 exact InvS.step hold hsz htwo hgl hQ hq H4.out H5.out HK3.out (by rw [← HL5.out];exact HPL.out) (Kp.before (drewB w3) (hk5.mono (fun k h=>Or.inl h))) hri5 (by omega) HGO.out
set_option maxHeartbeats 1600000 in
theorem playL_anyS {B Q N:Nat} {w0 w:World} (h:InvS B w0 w Q N) :
  Calls Tryz.prog 17 #[.pointer (some ⟨Q,0,none⟩),.agg #[.int .i64 2,.int .i64 0,.int .i64 0,.string ⟨#[]⟩]] w fun e w'=>e=.returned (.bool true)∧InvS B w0 w' Q N:=by
 have ha:=al1 w (.cells #[.int .i64 2,.int .i64 0,.int .i64 0,.string ⟨#[]⟩] 29)
 have hop:=heap_alloc_new w (.cells #[.int .i64 2,.int .i64 0,.int .i64 0,.string ⟨#[]⟩] 29)
 have HI:=hide (h.below ha)
 obtain ⟨Lb,R,Zp,Zr,td,ls,os,rcs,rec,hq,hpl,hri,h4,h5,hrec,hgo⟩:=(h.below ha).both
 have HL:=hide (log_any hpl)
 have hR:(w.alloc (.cells #[.int .i64 2,.int .i64 0,.int .i64 0,.string ⟨#[]⟩] 29)).cell? ⟨R,4,none⟩=some (.string rec):=by
  obtain ⟨v,fs,ro,hP,_⟩:=hri
  rw [blk_cell hP.store];rfl
 have q0:(w.alloc (.cells #[.int .i64 2,.int .i64 0,.int .i64 0,.string ⟨#[]⟩] 29)).cell? ⟨Q,0,none⟩=some (.pointer (some ⟨Lb,0,none⟩)):=by rw [blk_cell hq];rfl
 have q1:(w.alloc (.cells #[.int .i64 2,.int .i64 0,.int .i64 0,.string ⟨#[]⟩] 29)).cell? ⟨Q,1,none⟩=some (.pointer (some ⟨R,0,none⟩)):=by rw [blk_cell hq];rfl
 have o0:(w.alloc (.cells #[.int .i64 2,.int .i64 0,.int .i64 0,.string ⟨#[]⟩] 29)).cell? ⟨w.heap.size,0,none⟩=some (.int .i64 2):=by rw [blk_cell hop];rfl
 have hrc:(⟨rec.data.toList.toArray⟩:ByteArray)=rec:=(BA_of rec).symm
 rw [hrc] at HL
 clear h ha hop hq hpl hri h4 h5 hrec hgo hrc
 go_enter Tryz.func17,Tryz.ntmps17
 go_wp2_with (first | (go_at_call 38;refine (HL.out).mono ?_;rintro e w3 ⟨rfl,rfl⟩) | fail)
 go_ret
 exact ⟨rfl,HI.out⟩
end Go.Proofs.YtgcedalggnmooaaGreatDoor
namespace Go.Proofs.YtgcedalggnmooaaGreatDoor
open Go.RowKit
set_option maxHeartbeats 1600000 in
theorem playC_anyS {B Q N:Nat} {w0 w:World} (h:InvS B w0 w Q N) :
  Calls Tryz.prog 17 #[.pointer (some ⟨Q,0,none⟩),.agg #[.int .i64 3,.int .i64 0,.int .i64 0,.string ⟨#[]⟩]] w fun e w'=>e=.returned (.bool true)∧InvS B w0 w' Q (N+100000):=by
 have ha:=al1 w (.cells #[.int .i64 3,.int .i64 0,.int .i64 0,.string ⟨#[]⟩] 29)
 have hop:=heap_alloc_new w (.cells #[.int .i64 3,.int .i64 0,.int .i64 0,.string ⟨#[]⟩] 29)
 have hI:=h.below ha
 obtain ⟨hold,hsz,htwo,hgl,hQ,Lb,R,Zp,Zr,td,ls,os,rcs,rec,hq,hpl,hri,h4,h5,hrec,hgo,hsm⟩:=hI
 have HC:=hide (compactP_any hpl hgo hsm)
 have q0:(w.alloc (.cells #[.int .i64 3,.int .i64 0,.int .i64 0,.string ⟨#[]⟩] 29)).cell? ⟨Q,0,none⟩=some (.pointer (some ⟨Lb,0,none⟩)):=by rw [blk_cell hq];rfl
 have o0:(w.alloc (.cells #[.int .i64 3,.int .i64 0,.int .i64 0,.string ⟨#[]⟩] 29)).cell? ⟨w.heap.size,0,none⟩=some (.int .i64 3):=by rw [blk_cell hop];rfl
 have hT:Tiny td os rcs ls:=by obtain ⟨v,fs,ro,hP,_⟩:=hri;exact ⟨hP.today,hP.ok,hP.room,hgo,hsm,hP.rc⟩
 have hrx:=fun (w3:World) (hk3:Kp Zp _ w3)=>compactR_any (hri.congr (fun k hk=>hk3.block k (h5 k hk).2.1 (fun hz=>(h4 k hz).2.2.2 hk))) hgo (fun n hn=>by have:=hT.small n hn;omega) (fun l hl p hp=>by have:=(hsm.lot l hl).2 p hp;omega) (fun o ho p hp=>by have:=hT.line ho hp;omega) (fun p hp=>by have:=hT.rc.fits p hp;omega) (by have:=hT.bytes;omega)
 have HRX:=hide hrx
 have hq':=hq
 have HSTL:Hid ((stF td os rcs ls).data.toList=frmB (stB td os rcs ls)):=by unfold Hid stF frmA;simp
 have HSTS:Hid ((stF td os rcs ls).size≤100000):=by
  unfold Hid stF
  have h1:=frmA_size ⟨(stB td os rcs ls).toArray⟩ (by rw [ByteArray.size_mk'];have:=hT.bytes;simp;omega)
  have e1:(⟨(stB td os rcs ls).toArray⟩:ByteArray).size=(stB td os rcs ls).length:=by rw [ByteArray.size_mk'];simp
  rw [e1] at h1
  have:=hT.bytes;omega
 go_enter Tryz.func17,Tryz.ntmps17
 go_wp2_with (first
  | (go_at_call 39;refine (HC.out).mono ?_;rintro e w3 ⟨rfl,hk3,hpl3⟩;have hq3:=(hk3.block Q (blk_lt hq') (fun hz=>(h4 Q hz).2.2.1 rfl)).trans hq';have q1:w3.cell? ⟨Q,1,none⟩=some (.pointer (some ⟨R,0,none⟩)):=(by rw [blk_cell hq3];rfl);have HR:=hide (HRX.out w3 hk3))
  | (go_at_call 40;refine (HR.out).mono ?_;rintro e w5 ⟨rfl,hk5,hri5⟩))
 go_ret
 refine ⟨rfl,?_⟩
 exact InvS.step hold hsz htwo hgl hQ hq' h4 h5 hk3 (by rw [HSTL.out];exact hpl3) hk5 hri5 (Nat.le_trans HSTS.out (by omega)) ⟨hgo,hsm⟩
set_option maxHeartbeats 1600000 in
theorem states_any (b off len cap:Nat) (x1:Int) (ss:List ByteArray) (hl:len≤ss.length) (hlen:len≤2097152) (hss:∀ j,j<len→(ss.getD j ByteArray.empty).size≤2097143) (w:World) (hg:Gl w) (hb:b<w.heap.size)
  (hc:∀ j,j<len→w.cell? ⟨b,off+j,none⟩=some (.string (ss.getD j ByteArray.empty))) :
  Calls Tryz.prog 8 #[.slice (some ⟨b,off,none⟩) len cap,.int .i64 x1] w fun e w'=>e=.returned (.bool true)∧Below w.heap.size w w':=by
 go_enter Tryz.func8,Tryz.ntmps8
 go_wp2_with (go_at_call 15;refine (begun_anyS _ hg).mono ?_;rintro e w1 ⟨Q,rfl,hinv⟩)
 go_loopw [6,7] (fun ok i wr=>∃ k:Nat,k≤len∧ok=.bool true∧i=.int .i64 k∧InvS w.heap.size w wr Q (k * 4000000)) (fun _ i _=>len - (intOf i).toNat)
 case atStart=>exact ⟨0,by omega,rfl,rfl,by simpa using hinv⟩
 case round =>
  clear hinv
  obtain ⟨k,hk,rfl,rfl,hinv⟩:=hrel
  by_cases hlt:k<len
  ·obtain ⟨s,HS⟩:∃ s,Hid (s=ss.getD k ByteArray.empty):=⟨_,rfl⟩
   have HCX:Hid (∀ wz,Below w.heap.size w wz→wz.cell? ⟨b,off+k,none⟩=some (.string s)):=fun wz hz=>by rw [HS.out];exact (hz.cell (by exact hb)).trans (hc k hlt)
   have hsz:s.size≤2097143:=by rw [HS.out];exact hss k hlt
   have HIN:=hide hinv
   clear hc hss hinv
   by_cases hat:((k:Int)=x1)
   ·have hatb:((k:Int) == x1)=true:=by simp [hat]
    clear hat
    have HP1:=hide (playC_anyS HIN.out)
    go_wp2_with (go_at_call 17;with_reducible refine (HP1.out).mono ?_;rintro e w3 ⟨rfl,hinv3⟩)
    with_reducible refine (playL_anyS hinv3).mono ?_
    rintro e w4 ⟨rfl,hinv4⟩
    have hcx:=HCX.out w4 hinv4.old
    have HP2:=hide (playR_anyS hinv4 (by omega) s hsz)
    clear hinv3 hinv4 HP1 HIN
    go_wp2_with fail
    with_reducible refine (HP2.out).mono ?_
    rintro e w5 ⟨rfl,hinv5⟩
    go_wp2_with fail
    go_roundw
    case rel=>exact ⟨k+1,by omega,rfl,by go_num,hinv5.grow (by omega)⟩
    case measure=>simp [intOf];omega
   ·have hatb:((k:Int) == x1)=false:=by rw [beq_eq_false_iff_ne];exact hat
    clear hat
    have hcx:=HCX.out wr HIN.out.old
    have HP2:=hide (playR_anyS HIN.out (by omega) s hsz)
    clear HIN
    go_wp2_with (go_at_call 17;with_reducible refine (HP2.out).mono ?_;rintro e w5 ⟨rfl,hinv5⟩)
    go_roundw
    case rel=>exact ⟨k+1,by omega,rfl,by go_num,hinv5.grow (by omega)⟩
    case measure=>simp [intOf];omega
  ·obtain rfl:k=len:=by omega
   have HP1:=hide (playC_anyS hinv)
   clear hc hss hlt hinv
   go_wp2_with (go_at_call 17;with_reducible refine (HP1.out).mono ?_;rintro e w3 ⟨rfl,hinv3⟩)
   with_reducible refine (playL_anyS hinv3).mono ?_
   rintro e w4 ⟨rfl,hinv4⟩
   go_wp2_with fail
   go_ret
   exact ⟨rfl,hinv4.old⟩
set_option maxHeartbeats 1600000 in
theorem states_zero (ao:Option Addr) (cap:Nat) (x1:Int) (w:World) (hg:Gl w) :
  Calls Tryz.prog 8 #[.slice ao 0 cap,.int .i64 x1] w fun e w'=>e=.returned (.bool true)∧Below w.heap.size w w':=by
 go_enter Tryz.func8,Tryz.ntmps8
 go_wp2_with (go_at_call 15;refine (begun_anyS _ hg).mono ?_;rintro e w1 ⟨Q,rfl,hinv⟩)
 refine wp_loop_rounds 1 ?_;rw [rounds_succ]
 have HP1:=hide (playC_anyS hinv)
 clear hinv
 go_wp2_with (go_at_call 17;with_reducible refine (HP1.out).mono ?_;rintro e w3 ⟨rfl,hinv3⟩)
 with_reducible refine (playL_anyS hinv3).mono ?_
 rintro e w4 ⟨rfl,hinv4⟩
 go_wp2_with fail
 go_ret
 exact ⟨rfl,hinv4.old⟩
end Go.Proofs.YtgcedalggnmooaaGreatDoor
