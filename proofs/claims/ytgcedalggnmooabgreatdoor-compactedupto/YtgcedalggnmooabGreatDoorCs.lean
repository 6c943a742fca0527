import Derived.Test.YtgcedalggnmooabGreatDoorCqX
set_option linter.unusedSimpArgs false
set_option linter.unusedVariables false
set_option maxRecDepth 100000
namespace Go.Proofs.YtgcedalggnmooabGreatDoor
open Go.RowKit
set_option maxHeartbeats 6400000 in
theorem compacted_any (a0:Option Addr) (len cap:Nat) (hlen:len≤2097152) (X:Nat→Nat→Int) (a2:Option Addr) (len2 cap2:Nat) (hlen2:len2≤2097152) (X2:Nat→Nat→Int) (w:World) (hg:Gl w) (hm:GmU w.heap.size w)
  (hx:0<len→∃ b off,a0=some ⟨b,off,none⟩∧Scr w b off len X) (hx2:0<len2→∃ b off,a2=some ⟨b,off,none⟩∧Scr w b off len2 X2) :
  Calls Tryz.prog 5 #[.slice a0 len cap,.slice a2 len2 cap2] w fun e w'=>e=.returned (.bool true)∧Below w.heap.size w w':=by
 have HP1:=hide (played_s a0 len cap hlen X w hg hx)
 have HP2:Hid (∀ w1,Below w.heap.size w w1→Gl w1→Calls Tryz.prog 7 #[.slice a0 len cap] w1 fun e w'=>∃ Lb Z,e=.returned (.tuple #[.pointer (some ⟨Lb,0,none⟩),.bool true])∧Kv w1.heap.size w1 w' Z Lb (sKx X len)∧Snv (sKx X len)∧(sKx X len).lg.length≤200+64 * len):=fun w1 hb hg1=>played_s a0 len cap hlen X w1 hg1 (fun h=>by obtain ⟨b,off,h1,h2⟩:=hx h;exact ⟨b,off,h1,h2.below hb⟩)
 have HX0:=hide hx2
 have HM:=hide hm
 clear hx hx2 hm hg
 generalize sKx X len=s at *
 go_enter Tryz.func5,Tryz.ntmps5
 go_wp2_with (go_at_call 7;refine (HP1.out).mono ?_;rintro e w1 ⟨Lp,Zp,rfl,hkv1,hsn,hslg⟩;clear HP1)
 have HQ:=hide (HP2.out w1 hkv1.old hkv1.gl)
 have HK1:=hide hkv1
 have HSN:=hide hsn
 clear hkv1 hsn HP2
 go_wp2_with fail
 refine (HQ.out).mono ?_
 rintro e w2 ⟨Lq,Zq,rfl,hkv2,_,_⟩
 have HT2:=hide (HK1.out.fresh hkv2)
 clear HQ HK1 hkv2
 have HC2:=hide (compact_kv HT2.out.p HSN.out.sml)
 go_wp2_with fail
 refine (HC2.out).mono ?_
 rintro e w3 ⟨rfl,Z3,hkv3,hkn3⟩
 have HT3:=hide (HT2.out.stepP hkv3 hkn3)
 clear HC2 HT2 hkv3 hkn3
 have HFC:=hide HT3.out.q.fac
 have HLB:=hide (cpt_bytes HFC.out HSN.out)
 obtain ⟨LOG,HLOG⟩:∃ G1:ByteArray,Hid (G1=⟨(frmB (stB s.td s.os s.rcs s.ls)).toArray⟩):=⟨_,rfl⟩
 have hlsz:LOG.size=(frmB (stB s.td s.os s.rcs s.ls)).length:=by rw [HLOG.out];show (frmB (stB s.td s.os s.rcs s.ls)).toArray.size=_;simp
 have hlb:=frmB_len (stB s.td s.os s.rcs s.ls) (by have:=HLB.out;omega)
 have hlb2:LOG.size≤10013:=by have:=HLB.out;omega
 have HL3:=hide (log_kv HT3.out.p)
 have HAL:=hide (alone_any (stB s.td s.os s.rcs s.ls) HLB.out rfl w3)
 have HOP:=hide (open_state HFC.out HSN.out w3 HT3.out.p.gl (HM.out.up HT3.out.p.old HT3.out.p.size))
 rw [show (⟨(cpt s).lg.toArray⟩:ByteArray)=LOG from HLOG.out.symm] at HL3
 rw [← HLOG.out] at HAL HOP
 rw [← hlsz] at HOP
 clear hlb
 go_wp2_with (first
  | (go_at_call 9;refine (HL3.out).mono ?_;rintro e w4 ⟨rfl,rfl⟩)
  | (go_at_call 19;refine (HAL.out).mono ?_;rintro e w5 ⟨rfl,rfl⟩))
 refine (HOP.out).mono ?_
 rintro e w6 ⟨Lr,Zr,rfl,hkv6⟩
 have HT6:=hide (HT3.out.third hkv6)
 clear HOP HAL HL3 HT3 hkv6
 go_wp2_with fail
 go_loopw [13] (fun ii wr=>∃ (k:Nat) (Z1 Z2 Z4:Nat→Prop) (sp sq sr:Sv),ii=.int .i64 k∧k≤len2∧Thr w.heap.size w wr Z1 Lp sp Z2 Lq sq Z4 Lr sr∧Ar sp sq∧Ar sp sr∧sp.lg=sr.lg∧sp.lg.length≤10013+64 * k∧sq.lg.length≤200+64 * len+64 * k∧Snv sp∧Snv sq) (fun ii _=>len2 - (intOf ii).toNat)
 case atStart=>exact ⟨0,Z3,Zq,Zr,cpt s,s,rdd s,rfl,by omega,HT6.out,⟨rfl,rfl,rfl,rfl⟩,⟨rfl,rfl,rfl,map_kap_kap.symm⟩,rfl,by show (frmB (stB s.td s.os s.rcs s.ls)).length≤_;omega,by omega,⟨HSN.out.sml,HSN.out.snd⟩,HSN.out⟩
 case round =>
  clear HT6 HM
  obtain ⟨k,Z1,Z2,Z4,sp,sq,sr,rfl,hk,htw,ha1,ha2,hll,hl1,hl2,hn1,hn2⟩:=hrel
  have HTW:=hide htw
  have HA1:=hide ha1
  have HA2:=hide ha2
  have HLL:=hide hll
  have HN1:=hide hn1
  have HN2:=hide hn2
  have hl3:sr.lg.length≤10013+64 * k:=by rw [← hll];exact hl1
  by_cases hlt:k<len2
  ·obtain ⟨b,off,ha0,hxs⟩:=HX0.out (by omega)
   subst ha0
   have hbB:=hxs.lt
   have HX:=hide hxs
   clear hxs
   have c0:wr.cell? ⟨b,off+k * 5,none⟩=some (.int .i64 (X2 k 0)):=(htw.pq.p.old.cell (p:=⟨b,off+k * 5+0,none⟩) hbB).trans (HX.out.cell k hlt 0 (by omega))
   have c1:=(htw.pq.p.old.cell (p:=⟨b,off+k * 5+1,none⟩) hbB).trans (HX.out.cell k hlt 1 (by omega))
   have c2:=(htw.pq.p.old.cell (p:=⟨b,off+k * 5+2,none⟩) hbB).trans (HX.out.cell k hlt 2 (by omega))
   have c3:=(htw.pq.p.old.cell (p:=⟨b,off+k * 5+3,none⟩) hbB).trans (HX.out.cell k hlt 3 (by omega))
   have c4:=(htw.pq.p.old.cell (p:=⟨b,off+k * 5+4,none⟩) hbB).trans (HX.out.cell k hlt 4 (by omega))
   have HSP:=hide (spelt_x HX.out k hlt)
   have HS1:=hide (ha1.step (.ok (spX X2 k)))
   have HS2:=hide (ha2.step (.ok (spX X2 k)))
   have HG2:=hide (ha2.lg hll (.ok (spX X2 k)))
   have HM1:=hide (hn1.stepX htw.pq.p.fac X2 k)
   have HM2:=hide (hn2.stepX htw.pq.q.fac X2 k)
   have HLN1:Hid ((stepV sp (.ok (spX X2 k))).lg.length≤10013+64 * (k+1)):=by have:=spX_lg X2 k sp;unfold Hid;omega
   have HLN2:Hid ((stepV sq (.ok (spX X2 k))).lg.length≤200+64 * len+64 * (k+1)):=by have:=spX_lg X2 k sq;unfold Hid;omega
   have HHD:Hid (∀ (s2:Sv) (w2:World) (Z:Nat→Prop) (Lb:Nat),s2.lg.length≤35184372088832→Kv w.heap.size w w2 Z Lb s2→Calls Tryz.prog 10 #[.pointer (some ⟨Lb,0,none⟩),.string (cmdX X2 k)] w2 fun e w'=>e=.returned (.string ⟨(repV s2 (.ok (spX X2 k))).toArray⟩)∧∃ Z',Kv w.heap.size w w' Z' Lb (stepV s2 (.ok (spX X2 k)))∧Kn Z w2 Z' w'):=fun s2 w2 Z Lb hl hk=>handle_x hk hl X2 k
   obtain ⟨R,HR⟩:∃ R,Hid (R=repV sp (.ok (spX X2 k))):=⟨_,rfl⟩
   have HR2:Hid (repV sq (.ok (spX X2 k))=R):=by unfold Hid;rw [HR.out,HS1.out.2]
   have HR3:Hid (repV sr (.ok (spX X2 k))=R):=by unfold Hid;rw [HR.out,HS2.out.2]
   generalize cmdX X2 k=t at *
   generalize spX X2 k=cc at *
   generalize X2 k 0=x0 at *
   generalize X2 k 1=x1 at *
   generalize X2 k 2=x2 at *
   generalize X2 k 3=x3 at *
   generalize X2 k 4=x4 at *
   clear htw ha1 ha2 hll hn1 hn2
   go_wp2_with (go_at_call 13;refine (HSP.out _).mono ?_;rintro e w7 ⟨rfl,hb7⟩;have HT7:=hide (HTW.out.below hb7);have HH7:=hide (HHD.out sp w7 Z1 Lp (by omega) HT7.out.pq.p);rw [← HR.out] at HH7)
   refine (HH7.out).mono ?_
   rintro e w8 ⟨rfl,Z8,hkv8,hkn8⟩
   have HT8:=hide (HT7.out.step hkv8 hkn8).turn
   have HH8:=hide (HHD.out sq w8 Z2 Lq (by omega) HT8.out.pq.p)
   rw [HR2.out] at HH8
   clear HH7 hkv8 hkn8
   go_wp2_with fail
   refine (HH8.out).mono ?_
   rintro e w9 ⟨rfl,Z9,hkv9,hkn9⟩
   have HT9:=hide (HT8.out.step hkv9 hkn9).turn
   have HH9:=hide (HHD.out sr w9 Z4 Lr (by omega) HT9.out.pq.p)
   rw [HR3.out] at HH9
   clear HH8 hkv9 hkn9 HHD
   go_wp2_with fail
   refine (HH9.out).mono ?_
   rintro e w10 ⟨rfl,Z10,hkv10,hkn10⟩
   have HT10:=hide (HT9.out.step hkv10 hkn10).turn
   clear HH9 hkv10 hkn10
   go_wp2_with fail
   refine ⟨⟨k+1,Z8,Z9,Z10,stepV sp (.ok cc),stepV sq (.ok cc),stepV sr (.ok cc),by go_num,by omega,HT10.out,HS1.out.1,HS2.out.1,HG2.out,HLN1.out,HLN2.out,HM1.out,HM2.out⟩,?_⟩
   simp [intOf];omega
  ·obtain rfl:k=len2:=by omega
   clear hlt HX0
   obtain ⟨T,HT⟩:∃ T:ByteArray,Hid (T=⟨(spB sp 9).toArray⟩):=⟨_,rfl⟩
   obtain ⟨G,HG⟩:∃ G:ByteArray,Hid (G=⟨sp.lg.toArray⟩):=⟨_,rfl⟩
   obtain ⟨H,HH⟩:∃ H:ByteArray,Hid (H=⟨(cpt sp).lg.toArray⟩):=⟨_,rfl⟩
   have HE1:Hid ((⟨(spB sq 9).toArray⟩:ByteArray)=T):=by unfold Hid;rw [HT.out,← ha1.spB]
   have HE2:Hid ((⟨(spB sr 9).toArray⟩:ByteArray)=T):=by unfold Hid;rw [HT.out,← ha2.spB]
   have HE3:Hid ((⟨sr.lg.toArray⟩:ByteArray)=G):=by unfold Hid;rw [HG.out,hll]
   have HE4:Hid ((⟨(cpt sq).lg.toArray⟩:ByteArray)=H):=by unfold Hid;rw [HH.out,← ha1.cpt]
   have HLP:=hide (looked_any htw.pq.p)
   rw [← HT.out] at HLP
   clear htw ha1 ha2 hll hn1 hn2
   go_wp2_with fail
   refine (HLP.out).mono ?_
   rintro e w7 ⟨rfl,Z7,hkv7,hkn7⟩
   have HT7:=hide (HTW.out.step hkv7 hkn7).turn
   have HLQ:=hide (looked_any HT7.out.pq.p)
   rw [HE1.out] at HLQ
   clear HLP hkv7 hkn7 HTW
   go_wp2_with fail
   refine (HLQ.out).mono ?_
   rintro e w8 ⟨rfl,Z8,hkv8,hkn8⟩
   have HT8:=hide (HT7.out.step hkv8 hkn8).turn
   have HLR:=hide (looked_any HT8.out.pq.p)
   rw [HE2.out] at HLR
   clear HLQ hkv8 hkn8 HT7
   go_wp2_with fail
   refine (HLR.out).mono ?_
   rintro e w9 ⟨rfl,Z9,hkv9,hkn9⟩
   have HT9:=hide (HT8.out.step hkv9 hkn9).turn
   have HGP:=hide (log_kv HT9.out.pq.p)
   have HGR:=hide (log_kv HT9.out.pr.q)
   rw [← HG.out] at HGP
   rw [HE3.out] at HGR
   clear HLR hkv9 hkn9 HT8
   go_wp2_with fail
   refine (HGP.out).mono ?_
   rintro e w10 ⟨rfl,rfl⟩
   go_wp2_with fail
   refine (HGR.out).mono ?_
   rintro e w11 ⟨rfl,rfl⟩
   have HCP:=hide (compact_kv HT9.out.pq.p HN1.out.sml)
   clear HGP HGR
   go_wp2_with fail
   refine (HCP.out).mono ?_
   rintro e w12 ⟨rfl,Z12,hkv12,hkn12⟩
   have HT12:=hide (HT9.out.step hkv12 hkn12).turn
   have HCQ:=hide (compact_kv HT12.out.pq.p HN2.out.sml)
   clear HCP hkv12 hkn12 HT9
   go_wp2_with fail
   refine (HCQ.out).mono ?_
   rintro e w13 ⟨rfl,Z13,hkv13,hkn13⟩
   have HT13:=hide (HT12.out.step hkv13 hkn13)
   have HFP:=hide (log_kv HT13.out.pr.q)
   have HFQ:=hide (log_kv HT13.out.pq.p)
   rw [← HH.out] at HFP
   rw [HE4.out] at HFQ
   clear HCQ hkv13 hkn13 HT12
   go_wp2_with fail
   refine (HFP.out).mono ?_
   rintro e w14 ⟨rfl,rfl⟩
   go_wp2_with fail
   refine (HFQ.out).mono ?_
   rintro e w15 ⟨rfl,rfl⟩
   go_wp2_with fail
   go_ret
   exact ⟨rfl,HT13.out.pq.p.old⟩
end Go.Proofs.YtgcedalggnmooabGreatDoor
