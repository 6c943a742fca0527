import Derived.Test.YtgcedalggnmooaaGreatDoorQ1X
set_option linter.all false
set_option maxRecDepth 100000
set_option maxHeartbeats 3200000
namespace Go.Proofs.YtgcedalggnmooaaGreatDoor
open Tryz
def ZY{α:Type}{l:List α}{d:α}{k:Nat}(a:k<l.length):l.take (k+1)=l.take k++[l.getD k d]:=by
 rw[xn a];simp[Wc,a]
def ZH{α:Type}[DecidableEq α]:∀{l m:List α},l.Nodup->(∀x∈l,x∈m)->l.length<=m.length
 |[],m,_,_=>by simp
 |x::l,m,hn,hs=>by
  have b:=yj.1 hn;have a:=hs x (by simp);have:=ZH (l:=l) (m:=m.erase x) b.2 (λy c=>(xbD (λe=>b.1 (by rw[<-e];exact c))).2 (hs y (by simp[c])));rw[xav a]at this;have d:=List.length_pos_of_mem a;rw[List.length_cons];omega
def WU(l:List (Nat×Nat))(j:Nat):List (Nat×Nat):=(l.set (j+1) (l.getD j (0,0))).set j (l.getD (j+1) (0,0))
def VN(lt:Nat×Nat->Nat×Nat->Bool):Nat->List (Nat×Nat)->List (Nat×Nat)
 |0,l=>l
 |j+1,l=>if lt (l.getD (j+1) (0,0)) (l.getD j (0,0))=true then VN lt j (WU l j) else l
def Wk(lt:Nat×Nat->Nat×Nat->Bool)(l:List (Nat×Nat)):Nat->List (Nat×Nat)
 |0=>l
 |k+1=>VN lt k (Wk lt l k)
def Wm(lt:Nat×Nat->Nat×Nat->Bool)(l:List (Nat×Nat)):List (Nat×Nat):=Wk lt l l.length
def CX(lt:Nat×Nat->Nat×Nat->Bool)(x:Nat×Nat):List (Nat×Nat)->List (Nat×Nat)
 |[]=>[x]
 |y::r=>if lt x y=true then y::CX lt x r else x::y::r
def WK(lt:Nat×Nat->Nat×Nat->Bool)(l:List (Nat×Nat)):List (Nat×Nat):=l.foldl (λrp x=>CX lt x rp) []
def LD(l:List (Nat×Nat))(j:Nat):(WU l j).length=l.length:=by simp[WU]
def Iz(lt:Nat×Nat->Nat×Nat->Bool):∀(j:Nat) (l:List (Nat×Nat)),(VN lt j l).length=l.length
 |0,l=>rfl
 |j+1,l=>by
  rw[VN];split
  ·rw[Iz lt j,LD]
  rfl
def CY(lt:Nat×Nat->Nat×Nat->Bool)(l:List (Nat×Nat)):∀k,(Wk lt l k).length=l.length
 |0=>rfl
 |k+1=>by rw[Wk,Iz,CY lt l k]
def jR(lt:Nat×Nat->Nat×Nat->Bool)(x:Nat×Nat):∀l,(CX lt x l).Perm (x::l)
 |[]=>YP _
 |y::r=>by
  rw[CX];split
  ·exact((jR lt x r).cons y).trans (List.Perm.swap x y r)
  exact YP _
def Nu(lt:Nat×Nat->Nat×Nat->Bool)(x:Nat×Nat)(l:List (Nat×Nat)):(CX lt x l).length=l.length+1:=(jR lt x l).length_eq
def TC(a b:List (Nat×Nat))(x y:Nat×Nat):WU (a++y::x::b) a.length=a++x::y::b:=by
 unfold WU;have c:(a++y::x::b).getD a.length (0,0)=y:=by simp[Wc]
 have d:(a++y::x::b).getD (a.length+1) (0,0)=x:=by simp[Wc]
 rw[c,d];simp
def Iy(lt:Nat×Nat->Nat×Nat->Bool)(x:Nat×Nat):∀(rp r:List (Nat×Nat)),VN lt rp.length (rp.reverse++x::r)=(CX lt x rp).reverse++r
 |[],r=>by simp[VN,CX]
 |y::rp,r=>by
  have a:(y::rp).reverse++x::r=rp.reverse++y::x::r:=by simp
  have b:(rp.reverse++y::x::r).getD (rp.length+1) (0,0)=x:=by simp[Wc,List.getElem?_append]
  have c:(rp.reverse++y::x::r).getD rp.length (0,0)=y:=by simp[Wc,List.getElem?_append]
  rw[List.length_cons,VN,a,b,c,CX];split
  ·have:=TC rp.reverse r x y
   rw[List.length_reverse]at this;rw[this,Iy lt x rp (y::r)];simp
  simp
def Ry(lt:Nat×Nat->Nat×Nat->Bool)(l:List (Nat×Nat)):(WK lt l).length=l.length:=by
 have:∀(l rp:List (Nat×Nat)),(l.foldl (λrp x=>CX lt x rp) rp).length=rp.length+l.length:=by
  intro l;induction l with
  |nil=>intro rp;simp
  |cons a l ih=>intro rp;rw[YA,ih,Nu,List.length_cons];omega
 rw[WK,this];simp
def Pk(lt:Nat×Nat->Nat×Nat->Bool)(l:List (Nat×Nat)):∀k,k<=l.length->Wk lt l k=(WK lt (l.take k)).reverse++l.drop k
 |0,_=>by simp[Wk,WK]
 |k+1,hk=>by
  have a:k<l.length:=by omega
  rw[Wk,Pk lt l k (by omega),ZY (d:=(0,0)) a];have c:l.drop k=l.getD k (0,0)::l.drop (k+1):=by rw[YW a];simp[Wc,a]
  have e:WK lt (l.take k++[l.getD k (0,0)])=CX lt (l.getD k (0,0)) (WK lt (l.take k)):=by simp[WK,xbl]
  have b:=Iy lt (l.getD k (0,0)) (WK lt (l.take k)) (l.drop (k+1));rw[Ry,XL,xcr (by omega)]at b;rw[c,e,b]
def SY(lt:Nat×Nat->Nat×Nat->Bool)(l:List (Nat×Nat)):Wm lt l=(WK lt l).reverse:=by
 rw[Wm,Pk lt l _ (xe _)];simp
def Fu(lt:Nat×Nat->Nat×Nat->Bool)(l:List (Nat×Nat)):(WK lt l).Perm l:=by
 have:∀(l rp:List (Nat×Nat)),(l.foldl (λrp x=>CX lt x rp) rp).Perm (l++rp):=by
  intro l;induction l with
  |nil=>intro rp;exact YP _
  |cons a l ih=>
   intro rp;rw[YA];exact(ih _).trans (((jR lt a rp).append_left l).trans List.perm_middle)
 simpa [WK] using this l []
def AT(lt:Nat×Nat->Nat×Nat->Bool)(x:Nat×Nat)(has:∀a b,lt a b=true->lt b a=false)(f:∀a b c,lt a b=false->lt b c=false->lt a c=false):∀l:List (Nat×Nat),l.Pairwise (λa b=>lt a b=false)->(CX lt x l).Pairwise (λa b=>lt a b=false)
 |[],_=>by simp[CX]
 |y::r,h=>by
  have i:=XE.1 h;rw[CX];split
  ·rename_i e;refine XE.2 ⟨λb d=>?_,AT lt x has f r i.2⟩;rcases xz.1 ((jR lt x r).mem_iff.1 d) with rfl|d
   ·exact has _ _ e
   exact i.1 b d
  rename_i e;have g:lt x y=false:=by simpa using e
  refine XE.2 ⟨λb d=>?_,h⟩;rcases xz.1 d with rfl|d
  ·exact g
  exact f _ _ _ g (i.1 b d)
def Oo(lt:Nat×Nat->Nat×Nat->Bool)(has:∀a b,lt a b=true->lt b a=false)(d:∀a b c,lt a b=false->lt b c=false->lt a c=false)(l:List (Nat×Nat)):(WK lt l).Pairwise (λa b=>lt a b=false):=by
 have:∀(l rp:List (Nat×Nat)),rp.Pairwise (λa b=>lt a b=false)->(l.foldl (λrp x=>CX lt x rp) rp).Pairwise (λa b=>lt a b=false):=by
  intro l;induction l with
  |nil=>intro rp h;exact h
  |cons a l ih=>intro rp h;rw[YA];exact ih _ (AT lt a has d rp h)
 exact this l [] (by simp)
def qV:∀(l:List (Nat×Nat)) (j:Nat) (p:Nat×Nat),zl (l.set j p)=((zl l).set (j*2) (.int .i64 p.1)).set (j*2+1) (.int .i64 p.2)
 |[],j,p=>by simp[zl]
 |q::l,0,p=>rfl
 |q::l,j+1,p=>by
  have e:(j+1)*2=j*2+2:=by omega
  rw[e];simp only[xbR,zl,qV l j p]
def aC(a b:Nat×Nat):Bool:=decide (a.1<b.1)||(decide (a.1=b.1)&&decide (a.2<b.2))
open Go.RowKit
variable {N R base cur i n td:Nat}{l rj:List (Nat×Nat)}{t:TypeId}{w:World}
def eT{a:Option Addr}{cap:Nat}(h:w.ownsRow base t 2 (.slice a n cap) n (zl l))(k:Nat)(d:k<l.length)(f:n=l.length):∃G,a=some ⟨G,0,none⟩/\G<w.heap.size/\w.cell? ⟨G,k*2,none⟩=some (.int .i64 ((l.getD k (0,0)).1:Int))/\w.cell? ⟨G,k*2+1,none⟩=some (.int .i64 ((l.getD k (0,0)).2:Int)):=by
 obtain⟨G,c,e,_,b⟩:=zL h (by omega)
 cases e;have q:=oG l k d
 refine⟨G,rfl,b,?_,?_⟩
 ·rw[h.cellAt (k*2) (by omega)];exact q.1
 rw[h.cellAt (k*2+1) (by omega)];exact q.2
def SV{F:Nat}(hz:F=212\/F=229){lt:Nat×Nat->Nat×Nat->Bool}{cf:Nat×Nat->Nat×Nat->Int}{G z:Nat}{v:Value}{l:List (Nat×Nat)}{w:World}(a7:∀args w,(callFunc G args).run prog w=.ok (.enter G args) w)(J:∀a b W x,Calls prog G #[.agg #[.int .i64 a.1,.int .i64 a.2],.agg #[.int .i64 b.1,.int .i64 b.2]] (ext W x) λe w'=>e=.returned (.int .i64 (cf a b))/\∃x',w'=ext W x')(N:∀a b,cf a b<0↔lt a b=true)(h:w.ownsRow z t 2 v l.length (zl l))(hl:l.length<=12):Calls prog F #[v,.int .i64 0,.int .i64 l.length,.func (.func G) #[] #[]] w λe w'=>e=.returned (.tuple #[])/\Kp (λk=>v.ownBlock=some k) w w'/\w'.ownsRow z t 2 v l.length (zl (Wm lt l)):=by
 rcases hz with rfl|rfl
 all_goals
  obtain⟨va,s,hv⟩:=zj h;subst hv;have HC:=zb J;have a3:=zb N;have M:=zb h;clear J h N
  first
  |go_enter func212,ntmps212
  |go_enter func229,ntmps229
  go_wp2_with fail;go_loopw [8,9] (λii _ wr=>∃k:Nat,ii=.int .i64 ((k:Int)+1)/\(k<l.length\/k=0)/\Kp (λk=>(Value.slice va l.length s).ownBlock=some k) w wr/\wr.ownsRow z t 2 (.slice va l.length s) l.length (zl (Wk lt l (k+1)))) (λii _ _=>l.length-(intOf ii).toNat)
  case atStart=>exact⟨0,rfl,Or.inr rfl,Kp.refl _ _,M⟩
  clear M;obtain⟨k,rfl,hk,D,r⟩:=hrel;by_cases N:k+1<l.length
  ·have P:=zb D;have M:=zb r;have a8:((k:Int)+1<(l.length:Int)):=by omega
   clear D r hk;rename World=>wo
   go_wp2_with fail;go_loopw [9] (λjj w2=>∃(j:Nat) (m:List (Nat×Nat)),jj=.int .i64 j/\j<=k+1/\m.length=l.length/\VN lt j m=Wk lt l (k+2)/\Kp (λk=>(Value.slice va l.length s).ownBlock=some k) wo w2/\w2.ownsRow z t 2 (.slice va l.length s) l.length (zl m)) (λjj _=>(intOf jj).toNat)
   case atStart=>exact⟨k+1,Wk lt l (k+1),by go_num,by omega,CY lt l _,rfl,Kp.refl _ _,M⟩
   clear M;obtain⟨j,m,rfl,hj,E,n,q,d⟩:=hrel;by_cases a5:j=0
   ·subst a5;have H:Ha (m=Wk lt l (k+2)):=n;rw[H.o]at d;have C:=zb d;have K:=zb (P.trans (q.mono (λk h=>Or.inl h)));clear d q n H E P;go_wp2_with fail;go_quiet (fail);go_wp2_with fail;go_roundw
    case rel=>exact⟨k+1,by go_num,by omega,K.after (XA (xm _ _) _),zg C (XA (xm _ _) _)⟩
    simp[intOf];omega
   obtain⟨i,rfl⟩:∃i,j=i+1:=⟨j-1,by omega⟩
   have a9:i+1<m.length:=by omega
   obtain⟨y,rfl,f,Z,g2⟩:=eT d (i+1) (by omega) E.symm;obtain⟨_,e0,_,g3,g4⟩:=eT d i (by omega) E.symm
   cases e0;generalize hA:m.getD (i+1) (0,0)=A at *
   generalize hB:m.getD i (0,0)=Bb at *;have x1:∀x,(ext wr x).cell? ⟨y,(i+1)*2,none⟩=some (.int .i64 A.1):=λx=>((zp wr x).cell (by exact f)).trans Z
   have x2:∀x,(ext wr x).cell? ⟨y,(i+1)*2+1,none⟩=some (.int .i64 A.2):=λx=>((zp wr x).cell (by exact f)).trans g2
   have x3:∀x,(ext wr x).cell? ⟨y,i*2,none⟩=some (.int .i64 Bb.1):=λx=>((zp wr x).cell (by exact f)).trans g3
   have x4:∀x,(ext wr x).cell? ⟨y,i*2+1,none⟩=some (.int .i64 Bb.2):=λx=>((zp wr x).cell (by exact f)).trans g4
   have S:=λx=>zb (HC A Bb wr x)
   go_wp2_with fail;haveI hinh:Inhabited Ex:=⟨⟨0,#[]⟩⟩
   refine Z8 (by kernel_rfl) (by kernel_rfl) ?_
   repeat (go_big_quiet_step (exact(S _)))
   refine yi ?_
   intro _ a6;obtain⟨x,X⟩:=a6;subst X;have g:=zp wr x;generalize ext wr x=wx at *;have Q:=a3.o A Bb;have R:Ha (VN lt (i+1) m=if lt A Bb=true then VN lt i (WU m i) else m):=by
    unfold Ha;rw[VN,hA,hB]
   clear x1 x2 x3 x4 S;generalize cf A Bb=c at *
   cases T:lt A Bb with
   |false=>
    rw[T]at Q R;have hc:0<=c:=by
     rcases Int.lt_or_le c 0 with h|h
     ·exact absurd (Q.1 h) (by simp)
     exact h
    have H:Ha (m=Wk lt l (k+2)):=by unfold Ha;rw[<-n,R.o];simp
    have C:=zb (zg d g);rw[H.o]at C;have K:=zb ((P.trans (q.mono (λk h=>Or.inl h))).after g);clear d q n H Q R Z g2 g3 g4 g P;go_wp2_with fail;go_roundw
    case rel=>exact⟨k+1,by go_num,by omega,K,C⟩
    simp[intOf];omega
   |true=>
    rw[T]at Q R;have hc:c<0:=Q.2 rfl;have u:=zg d g;obtain⟨cs,B⟩:=zh u rfl;have f1:=ze B ((i+1)*2);have f2:=ze B ((i+1)*2+1);have f3:=ze B (i*2);have f4:=ze B (i*2+1);have k1:=(g.cell (p:=⟨y,(i+1)*2,none⟩) (by exact f)).trans Z;have k2:=(g.cell (p:=⟨y,(i+1)*2+1,none⟩) (by exact f)).trans g2;have k3:=(g.cell (p:=⟨y,i*2,none⟩) (by exact f)).trans g3;have k4:=(g.cell (p:=⟨y,i*2+1,none⟩) (by exact f)).trans g4;have a4:=zb u;have a1:=zb g;have a2:=zb q;have a0:Ha (VN lt i (WU m i)=Wk lt l (k+2)):=by unfold Ha;rw[<-n,R.o];simp
    clear d q n Q R Z g2 g3 g4 g u B;go_wp2_with fail;go_region;go_wp2_with fail;go_roundw
    case rel=>
     refine⟨i,WU m i,by go_num,by omega,by rw[LD];exact E,a0,?_,?_⟩
     ·have hZ:(Value.slice (some ⟨y,0,none⟩) l.length s).ownBlock=some y:=rfl;exact(((((a2.after a1).setCell (p:=⟨y,(i+1)*2,none⟩) (Or.inl hZ) _).setCell (p:=⟨y,(i+1)*2+1,none⟩) (Or.inl hZ) _).setCell (p:=⟨y,i*2,none⟩) (Or.inl hZ) _).setCell (p:=⟨y,i*2+1,none⟩) (Or.inl hZ) _).after ((xm _ _).drew)
     have r1:=(a4.stored ((i+1)*2) (.int .i64 Bb.1)).1;have r2:=(r1.stored ((i+1)*2+1) (.int .i64 Bb.2)).1;have r3:=(r2.stored (i*2) (.int .i64 A.1)).1;have r4:=(r3.stored (i*2+1) (.int .i64 A.2)).1;have e:zl (WU m i)=((((zl m).set ((i+1)*2) (.int .i64 Bb.1)).set ((i+1)*2+1) (.int .i64 Bb.2)).set (i*2) (.int .i64 A.1)).set (i*2+1) (.int .i64 A.2):=by
      unfold WU;rw[hA,hB,qV,qV]
     rw[e];exact zg r4 ((xm _ _).drew)
    simp[intOf]
  have H:Ha (Wk lt l (k+1)=Wm lt l):=by
   unfold Ha Wm;rcases hk with hk|rfl
   ·rw[show k+1=l.length by omega]
   rcases Nat.eq_zero_or_pos l.length with h0|h0
   ·have:l=[]:=XD.1 h0
    subst this;rfl
   rw[show l.length=0+1 by omega]
  rw[H.o]at r;have M:=zb r;have P:=zb D;clear r D hk H;go_wp2_with fail;go_end0;exact⟨rfl,P,M⟩
def Wx(x:Nat->Nat)(n:Nat):Nat->Option Nat
 |0=>none
 |k+1=>if n<x k/\(∀b,Wx x n k=some b->x k<x b) then some k else Wx x n k
def Wn(o:Option Nat):Int:=match o with|none=>-1|some i=>(i:Int)
def jW{x:Nat->Nat}{n:Nat}:∀{k i:Nat},Wx x n k=some i->i<k/\n<x i
 |0,i,h=>by simp[Wx]at h
 |k+1,i,h=>by
  rw[Wx]at h;split at h
  ·rename_i a
   cases h;exact⟨by omega,a.1⟩
  have:=jW h;exact⟨by omega,this.2⟩
variable {fs:List Value}{ls:List L}{os:List O}{rec:ByteArray}{ro:Ro}{v:Value}
def JZ(h:RV os rj ro w R v td rec fs ls)(n:Nat)(hn:n<=2147483647):Calls prog 80 #[.pointer (some ⟨R,0,none⟩),.int .i64 n] w λe w'=>e=.returned (.int .i64 (Wn (Wx (λi=>(ls.getD i L0).id) n ls.length)))/\Below w.heap.size w w':=by
 obtain⟨a,cap,W,j⟩:=h.shape;have c1:=h.c1;rw[W]at c1;have P:=h.room;have S:=zb h;have s:=zb j;have K:=zc h.store;have F:=zb c1;clear h W j c1;go_enter func80,ntmps80;go_wp2_with fail;have T:Ha (∀i,i<ls.length->(ls.getD i L0).id<=2147483647):=λi D=>(S.ok _ (zf D)).id
 obtain⟨x,l⟩:∃x:Nat->Nat,Ha (x=λi=>(ls.getD i L0).id):=⟨_,rfl⟩
 have t:Ha (∀i,i<ls.length->x i<=2147483647):=λi D=>by rw[l.o];exact T i D
 have H:Ha (0<ls.length->∃G,a=some ⟨G,0,none⟩/\G<w.heap.size/\∀i,i<ls.length->w.cell? ⟨G,i*11,none⟩=some (.int .i64 (x i:Int))):=λhp=>by
  obtain⟨G,u,E,h3⟩:=s.o hp;exact⟨G,u,E,λi D=>by rw[l.o];exact h3 i D 0 (by omega)⟩
 generalize A:ls.length=N at *;have J:=zb A;clear A;clear T s S;go_loopw [5,6] (λX Q wr=>∃k:Nat,k<=N/\Q=.int .i64 k/\X=.int .i64 (Wn (Wx x n k))/\Below w.heap.size w wr) (λ_ Q _=>N-(intOf Q).toNat)
 case atStart=>exact⟨0,by omega,rfl,rfl,xm _ _⟩
 obtain⟨k,hk,rfl,rfl,f⟩:=hrel;have c1:=(f.cell (p:=⟨R,1,none⟩) K).trans F;have r:=zb f;by_cases m:k<N
 ·obtain⟨G,y,z,d⟩:=H.o (by omega);rw[y]at c1;have g1:=(f.cell (p:=⟨G,k*11,none⟩) z).trans (d k m);have x1:=t.o k m;have c:Ha (Wx x n (k+1)=if n<x k/\(∀b,Wx x n k=some b->x k<x b) then some k else Wx x n k):=rfl;by_cases u:n<x k
  ·have Z:decide ((n:Int)<(x k:Int))=true:=Xt (by omega)
   cases g:Wx x n k with
   |none=>
    rw[xh ⟨u,λb f=>by rw[g]at f;cases f⟩]at c;have HQ:=zb g;clear f d y g;simp only[Wn];go_wp2_with fail;go_quiet (fail);go_wp2_with fail;go_roundw
    case rel=>exact⟨k+1,by omega,by go_num,by rw[c.o],XA r nq⟩
    simp[intOf];omega
   |some b=>
    obtain⟨a0,C⟩:=jW g;have g2:=(f.cell (p:=⟨G,b*11,none⟩) z).trans (d b (by omega));have x2:=t.o b (by omega);have f0:decide ((b:Int)<0)=false:=xy (by omega);simp only[Wn];by_cases E:x k<x b
    ·rw[xh ⟨u,λb' B=>by rw[g]at B;cases B;exact E⟩]at c;have f2:decide ((x k:Int)<(x b:Int))=true:=Xt (by omega);clear f d y g C;go_wp2_with fail;go_quiet (fail);go_wp2_with fail;go_roundw
     case rel=>exact⟨k+1,by omega,by go_num,by rw[c.o],XA r nq⟩
     simp[intOf];omega
    rw[xg (λM=>E (M.2 b g)),g]at c;have f2:decide ((x k:Int)<(x b:Int))=false:=xy (by omega);clear f d y g C;go_wp2_with fail;go_quiet (fail);go_wp2_with fail;go_roundw
    case rel=>exact⟨k+1,by omega,by go_num,by rw[c.o],XA r nq⟩
    simp[intOf];omega
  rw[xg (λM=>u M.1)]at c;have Z:decide ((n:Int)<(x k:Int))=false:=xy (by omega);generalize g:Wx x n k=q at *;clear f d y g;go_wp2_with fail;go_quiet (fail);go_wp2_with fail;go_roundw
  case rel=>exact⟨k+1,by omega,by go_num,by rw[c.o],XA r nq⟩
  simp[intOf];omega
 obtain rfl:k=N:=by omega
 clear f m;go_wp2_with fail;go_ret;exact⟨by rw[<-l.o,J.o];rfl,r⟩
structure UB(os:List O):Prop where
 oid:∀o∈os,o.id<=2147483647
 olen:os.length<=10
 lin:∀o∈os,o.li.length<=30
def Dx(h:RV os rj ro w R v td rec fs ls)(r:UB os)(n:Nat)(hn:n<=2147483647):Calls prog 82 #[.pointer (some ⟨R,0,none⟩),.int .i64 n] w λe w'=>e=.returned (.int .i64 (Wn (Wx (λi=>(os.getD i O0).id) n os.length)))/\Below w.heap.size w w':=by
 obtain⟨a,cap,Z,j⟩:=h.ord.shape;have c1:=h.c2;rw[Z]at c1;have T:=r.olen;have y:=zb r;have HP:=zb h;have l:=zb j;have Q:=zc h.store;have K:=zb c1;clear h Z j c1 r;go_enter func82,ntmps82;go_wp2_with fail;have X:Ha (∀i,i<os.length->(os.getD i O0).id<=2147483647):=λi H=>y.oid _ (by simp[Wc,H])
 obtain⟨x,m⟩:∃x:Nat->Nat,Ha (x=λi=>(os.getD i O0).id):=⟨_,rfl⟩
 have z:Ha (∀i,i<os.length->x i<=2147483647):=λi H=>by rw[m.o];exact X i H
 have M:Ha (0<os.length->∃G,a=some ⟨G,0,none⟩/\G<w.heap.size/\∀i,i<os.length->w.cell? ⟨G,i*3,none⟩=some (.int .i64 (x i:Int))):=λhp=>by
  obtain⟨G,t,J,_⟩:=l.o 0 hp;refine⟨G,t,J,λi H=>?_⟩;obtain⟨G',A,_,h3,_⟩:=l.o i H;rw[t]at A
  cases A;rw[m.o];exact h3
 generalize D:os.length=N at *;have P:=zb D;clear D;clear X l HP y;go_loopw [5,6] (λbv W wr=>∃k:Nat,k<=N/\W=.int .i64 k/\bv=.int .i64 (Wn (Wx x n k))/\Below w.heap.size w wr) (λ_ W _=>N-(intOf W).toNat)
 case atStart=>exact⟨0,by omega,rfl,rfl,xm _ _⟩
 obtain⟨k,hk,rfl,rfl,f⟩:=hrel;have c1:=(f.cell (p:=⟨R,2,none⟩) Q).trans K;have u:=zb f;by_cases s:k<N
 ·obtain⟨G,B,C,d⟩:=M.o (by omega);rw[B]at c1;have g1:=(f.cell (p:=⟨G,k*3,none⟩) C).trans (d k s);have x1:=z.o k s;have c:Ha (Wx x n (k+1)=if n<x k/\(∀b,Wx x n k=some b->x k<x b) then some k else Wx x n k):=rfl;by_cases t:n<x k
  ·have f1:decide ((n:Int)<(x k:Int))=true:=Xt (by omega)
   cases g:Wx x n k with
   |none=>
    rw[xh ⟨t,λb f=>by rw[g]at f;cases f⟩]at c;have HQ:=zb g;clear f d B g;simp only[Wn];go_wp2_with fail;go_quiet (fail);go_wp2_with fail;go_roundw
    case rel=>exact⟨k+1,by omega,by go_num,by rw[c.o],XA u nq⟩
    simp[intOf];omega
   |some b=>
    obtain⟨a0,F⟩:=jW g;have g2:=(f.cell (p:=⟨G,b*3,none⟩) C).trans (d b (by omega));have x2:=z.o b (by omega);have f0:decide ((b:Int)<0)=false:=xy (by omega);simp only[Wn];by_cases J:x k<x b
    ·rw[xh ⟨t,λb' E=>by rw[g]at E;cases E;exact J⟩]at c;have f2:decide ((x k:Int)<(x b:Int))=true:=Xt (by omega);clear f d B g F;go_wp2_with fail;go_quiet (fail);go_wp2_with fail;go_roundw
     case rel=>exact⟨k+1,by omega,by go_num,by rw[c.o],XA u nq⟩
     simp[intOf];omega
    rw[xg (λS=>J (S.2 b g)),g]at c;have f2:decide ((x k:Int)<(x b:Int))=false:=xy (by omega);clear f d B g F;go_wp2_with fail;go_quiet (fail);go_wp2_with fail;go_roundw
    case rel=>exact⟨k+1,by omega,by go_num,by rw[c.o],XA u nq⟩
    simp[intOf];omega
  rw[xg (λS=>t S.1)]at c;have f1:decide ((n:Int)<(x k:Int))=false:=xy (by omega);generalize g:Wx x n k=q at *;clear f d B g;go_wp2_with fail;go_quiet (fail);go_wp2_with fail;go_roundw
  case rel=>exact⟨k+1,by omega,by go_num,by rw[c.o],XA u nq⟩
  simp[intOf];omega
 obtain rfl:k=N:=by omega
 clear f s;go_wp2_with fail;go_ret;exact⟨by rw[<-m.o,P.o];rfl,u⟩
def JC:(prog.info? 181).map (λi=>(i.zero,i.size,i.bytes))=some (some (.agg #[.int .i64 0,.int .i64 0]),2,16):=by kernel_rfl
def uY:prog.underlying 40=some (.slice 181):=by kernel_rfl
def eQ(p:Nat×Nat):∀l,zl (l++[p])=zl l++[.int .i64 p.1,.int .i64 p.2]
 |[]=>rfl
 |q::l=>by show _::_::zl (l++[p])=_;rw[eQ p l];rfl
def gU(p:Nat×Nat)(out:List (Nat×Nat)):Nat->List (Nat×Nat)×Bool
 |0=>([],false)
 |k+1=>if aC p (out.getD k (0,0))=true/\(gU p out k).2=false then ((gU p out k).1++[p]++[out.getD k (0,0)],true) else ((gU p out k).1++[out.getD k (0,0)],(gU p out k).2)
def Mk(p:Nat×Nat)(out:List (Nat×Nat)):List (Nat×Nat):=if (gU p out out.length).2=true then (gU p out out.length).1 else (gU p out out.length).1++[p]
def xN(l:List (Nat×Nat)):Nat->List (Nat×Nat)
 |0=>[]
 |k+1=>Mk (l.getD k (0,0)) (xN l k)
def cA(l:List (Nat×Nat)):List (Nat×Nat):=xN l l.length
def wW(p:Nat×Nat)(out:List (Nat×Nat)):∀k,(gU p out k).1.length=k+(if (gU p out k).2=true then 1 else 0)
 |0=>rfl
 |k+1=>by
  have a:=wW p out k;rw[gU];split
  ·rename_i h;rw[h.2]at a;simp at a ⊢;omega
  simp only[xc,List.length_cons,XO];omega
def Ns(p:Nat×Nat)(out:List (Nat×Nat)):(Mk p out).length=out.length+1:=by
 have:=wW p out out.length
 unfold Mk;split
 ·rename_i h;rw[xh h]at this;exact this
 rename_i h;rw[xg h]at this;rw[xc,this];simp
def xO(l:List (Nat×Nat)):∀k,(xN l k).length=k
 |0=>rfl
 |k+1=>by rw[xN,Ns,xO l k]
def oE{p q:Nat×Nat}{out:List (Nat×Nat)}:∀{k},k<=out.length->q∈(gU p out k).1->q=p\/q∈out
 |0,_,h=>by simp[gU]at h
 |k+1,hk,h=>by
  have a:out.getD k (0,0)∈out:=by simp[Wc,show k<out.length by omega]
  rw[gU]at h;split at h
  ·simp only[xx,XN]at h;rcases h with (h|h)|h
   ·exact oE (by omega) h
   ·exact Or.inl h
   exact Or.inr (h ▸ a)
  simp only[xx,XN]at h;rcases h with h|h
  ·exact oE (by omega) h
  exact Or.inr (h ▸ a)
def Nt{p q:Nat×Nat}{out:List (Nat×Nat)}(h:q∈Mk p out):q=p\/q∈out:=by
 unfold Mk at h;split at h
 ·exact oE (xe _) h
 rcases xx.1 h with h|h
 ·exact oE (xe _) h
 exact Or.inl (by simpa using h)
def oI{l:List (Nat×Nat)}:∀{k},k<=l.length->∀{q},q∈xN l k->q∈l
 |0,_,q,h=>by simp[xN]at h
 |k+1,hk,q,h=>by
  rw[xN]at h;rcases Nt h with rfl|h
  ·simp[Wc,show k<l.length by omega]
  exact oI (by omega) h
def ET(a b:Nat×Nat)(k:a.1<9223372036854775808/\a.2<9223372036854775808)(l:b.1<9223372036854775808/\b.2<9223372036854775808)(w:World):Calls prog 132 #[.agg #[.int .i64 a.1,.int .i64 a.2],.agg #[.int .i64 b.1,.int .i64 b.2]] w λe w'=>e=.returned (.bool (aC a b))/\Below w.heap.size w w':=by
 obtain⟨c,g⟩:=a;obtain⟨d,h⟩:=b;simp only at k l ⊢;obtain⟨q,r⟩:=k;obtain⟨s,t⟩:=l;unfold aC;simp only;by_cases i:c<d
 ·have m:decide ((c:Int)<(d:Int))=true:=Xt (by omega);rw[Xt i,Bool.true_or];go_enter func132,ntmps132;go_wp2_with fail;go_ret;exact⟨rfl,by first|exact(VE w _).alloc (by simp) _|exact((VE w _).alloc (by simp) _).drew⟩
 have m:decide ((c:Int)<(d:Int))=false:=xy (by omega);rw[xy i,xbY];by_cases f:c=d
 ·have n:((c:Int)==(d:Int))=true:=by rw[Yi];omega
  rw[Xt f,xab];by_cases j:g<h
  ·have p:decide ((g:Int)<(h:Int))=true:=Xt (by omega);rw[Xt j];clear f;go_enter func132,ntmps132;go_wp2_with fail;go_ret;exact⟨rfl,by first|exact(VE w _).alloc (by simp) _|exact((VE w _).alloc (by simp) _).drew⟩
  have p:decide ((g:Int)<(h:Int))=false:=xy (by omega);rw[xy j];clear f;go_enter func132,ntmps132;go_wp2_with fail;go_ret;exact⟨rfl,by first|exact(VE w _).alloc (by simp) _|exact((VE w _).alloc (by simp) _).drew⟩
 have n:((c:Int)==(d:Int))=false:=by rw[xr];omega
 rw[xy f,xaA];go_enter func132,ntmps132;go_wp2_with fail;go_ret;exact⟨rfl,by first|exact(VE w _).alloc (by simp) _|exact((VE w _).alloc (by simp) _).drew⟩
def Ij(h:∀p∈l,p.1<9223372036854775808/\p.2<9223372036854775808)(k:Nat):(l.getD k (0,0)).1<9223372036854775808/\(l.getD k (0,0)).2<9223372036854775808:=by
 by_cases a:k<l.length
 ·exact h _ (by simp[Wc,a])
 simp[Wc,XJ (show l.length<=k by omega)]
def Bv(h:w.ownsRow base 181 2 v l.length (zl l))(hl:l.length<=1000)(hm:∀p∈l,p.1<9223372036854775808/\p.2<9223372036854775808):Calls prog 83 #[v] w λe w'=>Below w.heap.size w w'/\∃v',e=.returned v'/\w'.ownsRow w.heap.size 181 2 v' l.length (zl (cA l)):=by
 obtain⟨ip,R,a0,a1,a2⟩:=XT JC;obtain⟨a,cap,hv⟩:=zj h;subst hv;have HO:=zb h;have HM:=zb hm;obtain⟨N,hN⟩:∃N,N=l.length:=⟨_,rfl⟩
 have a6:=zb hN;rw[<-hN]at hl HO ⊢;clear h hm hN;go_enter func83,ntmps83;go_wp2_with fail;go_loopw [3,4,5,6,7,8] (λov ii _ _ _ _ wr=>∃k:Nat,k<=N/\ii=.int .i64 k/\wr.ownsRow w.heap.size 181 2 ov k (zl (xN l k))/\Below w.heap.size w wr) (λ_ ii _ _ _ _ _=>N-(intOf ii).toNat)
 case atStart=>exact⟨0,by omega,rfl,Xx _ _ _ _,xm _ _⟩
 obtain⟨k,hk,rfl,A,hb⟩:=hrel;by_cases d8:k<N
 ·obtain⟨oa,oc,f8⟩:=zj A;subst f8;obtain⟨G,hG,d6,b6⟩:∃G,a=some ⟨G,0,none⟩/\G<w.heap.size/\∀i,i<N->w.cell? ⟨G,i*2,none⟩=some (.int .i64 ((l.getD i (0,0)).1:Int))/\w.cell? ⟨G,i*2+1,none⟩=some (.int .i64 ((l.getD i (0,0)).2:Int)):=by
   obtain⟨g,c,hv,_,f6⟩:=zL HO (by omega)
   cases hv;refine⟨g,rfl,f6,λi hi=>?_⟩
   have:=HO.o
   rw[a6.o]at this;exact cW this i (by rw[<-a6.o];exact hi)
  subst hG;have f5:=Ij HM k;have b3:Ha (∀m,Below w.heap.size w m->m.cell? ⟨G,k*2,none⟩=some (.int .i64 ((l.getD k (0,0)).1:Int))/\m.cell? ⟨G,k*2+1,none⟩=some (.int .i64 ((l.getD k (0,0)).2:Int))):=λm hx=>⟨(hx.cell (p:=⟨G,k*2,none⟩) d6).trans (b6 k d8).1,(hx.cell (p:=⟨G,k*2+1,none⟩) d6).trans (b6 k d8).2⟩
  have d5:Ha (xN l (k+1)=Mk (l.getD k (0,0)) (xN l k)):=rfl;have f2:Ha (∀q∈xN l k,q.1<9223372036854775808/\q.2<9223372036854775808):=λq hq=>HM q (oI (by have:=a6.o;omega) hq)
  have b4:=zb (xO l k);generalize l.getD k (0,0)=p at *;generalize xN l k=out at *;have d4:=zb A;have HB:=zb hb;have e6:=hb.size;have F:Ha (Mk p out=if (gU p out out.length).2=true then (gU p out out.length).1 else (gU p out out.length).1++[p]):=rfl;rw[b4.o]at F;have c7:=zb (wW p out);have D:Ha (∀m,Below wr.heap.size wr m->Below w.heap.size w m/\m.ownsRow w.heap.size 181 2 (.slice oa k oc) k (zl out)):=λm hx=>⟨HB.trans (hx.mono HB.size),zg d4 hx⟩
  obtain⟨b,a8⟩:=Ww wr;have e5:w.heap.size<=b.heap.size:=by rw[a8.o];exact e6
  rw[<-a8.o]at D;clear A hb b6 d4 HB;go_wp2_with fail;rw[<-a8.o];clear a8 e6;go_loopw [5,6,7,8] (λnv iv kk _ m=>∃j:Nat,j<=k/\kk=.int .i64 j/\iv=.bool (gU p out j).2/\m.ownsRow b.heap.size 181 2 nv (gU p out j).1.length (zl (gU p out j).1)/\Below b.heap.size b m) (λ_ _ kk _ _=>k-(intOf kk).toNat)
  case atStart=>exact⟨0,by omega,rfl,rfl,Xx _ _ _ _,xm _ _⟩
  obtain⟨j,hj,rfl,rfl,K,r⟩:=hrel;by_cases b2:j<k
  ·obtain⟨J,e4⟩:=D.o wr r;obtain⟨g1,g2⟩:=b3.o wr J;obtain⟨H,c',g3,_,h1⟩:=zL e4 (by omega)
   cases g3;have f4:=Ij f2 j
   have a5:Ha (∀m,Below b.heap.size b m->(m.cell? ⟨G,k*2,none⟩=some (.int .i64 p.1)/\m.cell? ⟨G,k*2+1,none⟩=some (.int .i64 p.2))/\m.cell? ⟨H,j*2,none⟩=some (.int .i64 ((out.getD j (0,0)).1:Int))/\m.cell? ⟨H,j*2+1,none⟩=some (.int .i64 ((out.getD j (0,0)).2:Int))):=λm hx=>⟨b3 m (D m hx).1,cW (by rw[b4.o];exact(D m hx).2) j (by rw[b4.o];exact b2)⟩
   have c8:=zb (ET p (out.getD j (0,0)) f5 f4);have n:Ha (gU p out (j+1)=if aC p (out.getD j (0,0))=true/\(gU p out j).2=false then ((gU p out j).1++[p]++[out.getD j (0,0)],true) else ((gU p out j).1++[out.getD j (0,0)],(gU p out j).2)):=rfl;have f:=c7.o j;generalize out.getD j (0,0)=q at *;generalize gU p out j=st at *;obtain⟨C,M⟩:=st;obtain⟨p1,p2⟩:=p;obtain⟨q1,q2⟩:=q;simp only at a5 c8 n f K ⊢;have g9:C.length<=1001:=by
    by_cases hi:M=true
    ·rw[xh hi]at f;omega
    rw[xg hi]at f;omega
   generalize Q:C.length=nxl at *;have a7:=zb Q;have P:=zb K;have c6:=zb r;obtain⟨⟨g1,g2⟩,o1,o2⟩:=a5.o wr r;generalize f9:aC (p1,p2) (q1,q2)=pb at *;clear K r e4 J f9 Q f;go_wp2_with fail;go_region_with (go_at_call 132;refine(c8 _).mono ?_;rintro e w2 ⟨rfl,d7⟩)
   all_goals
    have b5:Below wr.heap.size wr w2:=((xm _ _).drew).trans d7;have d:Ha (Below b.heap.size b w2):=c6.trans (b5.mono c6.size);have E:=zb (zg P b5);obtain⟨⟨k1,k2⟩,k3,k4⟩:=a5.o w2 d;clear d7 b5 g1 g2 o1 o2;by_cases hc:pb=true/\M=false
    ·obtain⟨rfl,rfl⟩:=hc;rw[xh ⟨rfl,rfl⟩]at n;go_wp2_with (at_builtin;refine Xr _ rfl _ _ 40 rfl b.heap.size 181 ip (.agg #[.int .i64 0,.int .i64 0]) 2 16 uY R a0 a1 a2 rfl (by decide) _ nxl (zl C) rfl (E.alloc _) ⟨w2.heap.size,0,none⟩ 1 1 [.int .i64 p1,.int .i64 p2] rfl rfl ?d11 ?d21 ?d31 ?d41 ?d51 ?_)
     case d11=>exact Yt _ _ _ _
     case d21=>intro u B;simp at B;rcases B with rfl|rfl<;>rfl
     case d31=>unfold maxLen;omega
     case d41=>omega
     case d51=>have:=d.size;simp;omega
     intro g4 a9 S s d9;have b0:Ha (Below b.heap.size b a9):=(d.alloc d.size _).grown s (by have:=d.size;simp;omega) (λq hq=>(E.lt q hq).1);have b1:Ha (a9.ownsRow b.heap.size 181 2 g4 (nxl+1) (zl (C++[(p1,p2)]))):=by unfold Ha;rw[eQ];exact S
     clear S s d9;obtain⟨_,m3,m4⟩:=a5.o a9 b0;have a3:=zb b0;clear k1 k2 k3 k4;go_wp2_with (at_builtin;refine Xr _ rfl _ _ 40 rfl b.heap.size 181 ip (.agg #[.int .i64 0,.int .i64 0]) 2 16 uY R a0 a1 a2 rfl (by decide) _ (nxl+1) (zl (C++[(p1,p2)])) rfl (b1.alloc _) ⟨a9.heap.size,0,none⟩ 1 1 [.int .i64 q1,.int .i64 q2] rfl rfl ?d12 ?d22 ?d32 ?d42 ?d52 ?_)
     case d12=>exact Yt _ _ _ _
     case d22=>intro u B;simp at B;rcases B with rfl|rfl<;>rfl
     case d32=>unfold maxLen;omega
     case d42=>omega
     case d52=>have:=a3.size;simp;omega
     intro g5 e7 T t e0;have b7:Ha (Below b.heap.size b e7):=(a3.alloc a3.size _).grown t (by have:=a3.size;simp;omega) (λq hq=>(b1.lt q hq).1);have d0:Ha (e7.ownsRow b.heap.size 181 2 g5 ((nxl+1)+1) (zl ((C++[(p1,p2)])++[(q1,q2)]))):=by unfold Ha;rw[eQ];exact T
     clear T t e0;go_wp2_with fail;go_roundw
     case rel=>exact⟨j+1,by omega,by go_num,by rw[n.o],by rw[n.o];simp only[xc,List.length_cons,XO,a7.o];exact d0,b7⟩
     simp[intOf];omega
    rw[xg hc]at n
    cases pb with
    |false=>
     clear hc k1 k2;go_wp2_with (at_builtin;refine Xr _ rfl _ _ 40 rfl b.heap.size 181 ip (.agg #[.int .i64 0,.int .i64 0]) 2 16 uY R a0 a1 a2 rfl (by decide) _ nxl (zl C) rfl (E.alloc _) ⟨w2.heap.size,0,none⟩ 1 1 [.int .i64 q1,.int .i64 q2] rfl rfl ?d13 ?d23 ?d33 ?d43 ?d53 ?_)
     case d13=>exact Yt _ _ _ _
     case d23=>intro u B;simp at B;rcases B with rfl|rfl<;>rfl
     case d33=>unfold maxLen;omega
     case d43=>omega
     case d53=>have:=d.size;simp;omega
     intro g6 e8 W x e1;have b8:Ha (Below b.heap.size b e8):=(d.alloc d.size _).grown x (by have:=d.size;simp;omega) (λq hq=>(E.lt q hq).1);have d1:Ha (e8.ownsRow b.heap.size 181 2 g6 (nxl+1) (zl (C++[(q1,q2)]))):=by unfold Ha;rw[eQ];exact W
     clear W x e1;go_wp2_with fail;go_roundw
     case rel=>exact⟨j+1,by omega,by go_num,by rw[n.o],by rw[n.o];simp only[xc,List.length_cons,XO,a7.o];exact d1,b8⟩
     simp[intOf];omega
    |true=>
     have f7:M=true:=by
      cases M with
      |true=>rfl
      |false=>exact absurd ⟨rfl,rfl⟩ hc
     subst f7;clear hc k1 k2;go_wp2_with (at_builtin;refine Xr _ rfl _ _ 40 rfl b.heap.size 181 ip (.agg #[.int .i64 0,.int .i64 0]) 2 16 uY R a0 a1 a2 rfl (by decide) _ nxl (zl C) rfl (E.alloc _) ⟨w2.heap.size,0,none⟩ 1 1 [.int .i64 q1,.int .i64 q2] rfl rfl ?d14 ?d24 ?d34 ?d44 ?d54 ?_)
     case d14=>exact Yt _ _ _ _
     case d24=>intro u B;simp at B;rcases B with rfl|rfl<;>rfl
     case d34=>unfold maxLen;omega
     case d44=>omega
     case d54=>have:=d.size;simp;omega
     intro g7 e9 X y e2;have b9:Ha (Below b.heap.size b e9):=(d.alloc d.size _).grown y (by have:=d.size;simp;omega) (λq hq=>(E.lt q hq).1);have d2:Ha (e9.ownsRow b.heap.size 181 2 g7 (nxl+1) (zl (C++[(q1,q2)]))):=by unfold Ha;rw[eQ];exact X
     clear X y e2;go_wp2_with fail;go_roundw
     case rel=>exact⟨j+1,by omega,by go_num,by rw[n.o],by rw[n.o];simp only[xc,List.length_cons,XO,a7.o];exact d2,b9⟩
     simp[intOf];omega
  obtain rfl:j=k:=by omega
  obtain⟨J,_⟩:=D.o wr r;obtain⟨g1,g2⟩:=b3.o wr J;have f:=c7.o j;generalize g0:gU p out j=st at *;obtain⟨C,M⟩:=st;obtain⟨p1,p2⟩:=p;simp only at g1 g2 f K F ⊢;generalize Q:C.length=nxl at *;have a7:=zb Q;have P:=zb K;have a4:=zb r;have f1:=zb J;clear K r J Q g0 b2
  cases M with
  |true=>
   rw[xh rfl]at f F;go_wp2_with fail;go_roundw
   case rel=>exact⟨j+1,by omega,by go_num,by rw[d5.o,F.o,<-f];exact zF P e5,f1⟩
   simp[intOf];omega
  |false=>
   rw[xg (by simp)]at f F;have h0:nxl<=1000:=by omega
   have c9:=zb f;clear f;go_wp2_with (at_builtin;refine Xr _ rfl _ _ 40 rfl b.heap.size 181 ip (.agg #[.int .i64 0,.int .i64 0]) 2 16 uY R a0 a1 a2 rfl (by decide) _ nxl (zl C) rfl (P.alloc _) ⟨wr.heap.size,0,none⟩ 1 1 [.int .i64 p1,.int .i64 p2] rfl rfl ?d15 ?d25 ?d35 ?d45 ?d55 ?_)
   case d25=>first|exact⟨rfl,rfl⟩|(intro u B;simp at B;rcases B with rfl|rfl<;>rfl)
   case d35=>unfold maxLen;omega
   case d45=>omega
   case d55=>have:=a4.size;simp;omega
   intro g8 f0 Z z e3;have c5:Ha (Below b.heap.size b f0):=(a4.alloc a4.size _).grown z (by have:=a4.size;simp;omega) (λq hq=>(P.lt q hq).1);have d3:Ha (f0.ownsRow b.heap.size 181 2 g8 (nxl+1) (zl (C++[(p1,p2)]))):=by unfold Ha;rw[eQ];exact Z
   clear Z z e3;go_wp2_with fail;go_roundw
   case rel=>exact⟨j+1,by omega,by go_num,by rw[d5.o,F.o,show j+1=nxl+1 by have:=c9.o;omega];exact zF d3 e5,(D _ c5).1⟩
   simp[intOf];omega
 obtain rfl:k=N:=by omega
 have f3:Ha (cA l=xN l k):=by unfold Ha cA;rw[<-a6.o]
 go_wp2_with fail;go_ret
 exact⟨hb,_,rfl,by rw[f3.o];exact A⟩
def PRow(w:World)(v:Value)(l:List (Nat×Nat)):Prop:=∃a cap,v=.slice a l.length cap/\∀i,i<l.length->∃G,a=some ⟨G,0,none⟩/\G<w.heap.size/\w.cell? ⟨G,i*2,none⟩=some (.int .i64 ((l.getD i (0,0)).1:Int))/\w.cell? ⟨G,i*2+1,none⟩=some (.int .i64 ((l.getD i (0,0)).2:Int))
def PRow.own(h:w.ownsRow base 181 2 v l.length (zl l)):PRow w v l:=by
 obtain⟨a,cap,d⟩:=zj h;subst d;refine⟨a,cap,rfl,λi e=>?_⟩;obtain⟨g,c,d,_,b⟩:=zL h (by omega)
 cases d;obtain⟨c1,c2⟩:=cW h i e
 exact⟨g,rfl,b,c1,c2⟩
def PRow.prs(h:Prs t w v l):PRow w v l:=by
 rcases h with ⟨c,e⟩|⟨q,cap,f,c,b,d⟩
 ·subst c;subst e;exact⟨none,0,rfl,λi a=>absurd a (by simp)⟩
 refine⟨_,cap,c,λi a=>⟨q,rfl,zc b,?_,?_⟩⟩
 ·rw[za b,show i*2=2*i by omega];exact(d i a).1
 rw[za b,show i*2+1=2*i+1 by omega];exact(d i a).2
def PRow.below{w':World}(h:PRow w v l)(c:Below w.heap.size w w'):PRow w' v l:=by
 obtain⟨a,cap,k,g⟩:=h;refine⟨a,cap,k,λi j=>?_⟩;obtain⟨G,d,b,e,f⟩:=g i j;exact⟨G,d,xl b c.size,(c.cell (p:=⟨G,i*2,none⟩) b).trans e,(c.cell (p:=⟨G,i*2+1,none⟩) b).trans f⟩
def VV(l:List (Nat×Nat))(k:Nat):List Nat:=l.length::(l.take k).flatMap (λp=>[p.1,p.2])
def VW(l:List (Nat×Nat)):List Nat:=l.length::l.flatMap (λp=>[p.1,p.2])
def EB{k:Nat}(a:k<l.length):VV l (k+1)=VV l k++[(l.getD k (0,0)).1,(l.getD k (0,0)).2]:=by
 have e:l.getD k (0,0)=l[k]:=by simp[Wc,a]
 unfold VV;rw[xn a,yw,e];rfl
def eL{l:List (Nat×Nat)}:∀{k:Nat},k<=l.length->(VV l k).length=1+2*k
 |0,_=>rfl
 |k+1,hk=>by rw[EB (by omega),xc,eL (show k<=l.length by omega)];simp;omega
def eK(l:List (Nat×Nat)):VV l l.length=VW l:=by unfold VV VW;rw[Xs]
def wH(h:PRow w v l)(hl:l.length<=1000)(hm:∀p∈l,p.1<9223372036854775808/\p.2<9223372036854775808):Calls prog 81 #[v] w λe w'=>Below w.heap.size w w'/\∃g cap,e=.returned (.slice (some ⟨g,0,none⟩) (1+2*l.length) cap)/\w'.ownsRow w.heap.size 3 1 (.slice (some ⟨g,0,none⟩) (1+2*l.length) cap) (1+2*l.length) (I (VW l)):=by
 obtain⟨i0,hi,W,X,Z⟩:=XT Gq;have a0:=zb h;obtain⟨a,cap,T,hc⟩:=h;subst T;have HC:=zb hc;have HM:=zb hm;have s:=zb (eK l);obtain⟨N,hN⟩:∃N,N=l.length:=⟨_,rfl⟩
 have x:=zb hN;rw[<-hN]at hl HC s ⊢;have c:Ha ((w.alloc (.cells #[.int .i64 N] 3)).ownsRow w.heap.size 3 1 (.slice (some ⟨w.heap.size,0,none⟩) 1 1) (1+2*0) (I (VV l 0))/\Below w.heap.size w (w.alloc (.cells #[.int .i64 N] 3))):=by
  refine⟨⟨by simp[I,VV],Or.inr ⟨w.heap.size,1,#[.int .i64 N],rfl,xe _,xp w _,?_⟩⟩,VE w _⟩;simp[I,VV,x.o];unfold maxLen;omega
 clear hc hm hN;go_enter func81,ntmps81;go_wp2_with fail;obtain⟨w1,y⟩:∃w1,Ha (w1=w.alloc (.cells #[.int .i64 N] 3)):=⟨_,rfl⟩
 rw[<-y.o]at c ⊢;obtain⟨wb,i⟩:=Ww w.heap.size;rw[<-i.o];clear y;go_loopw [3,4] (λov ii wr=>∃k:Nat,k<=N/\ii=.int .i64 k/\wr.ownsRow w.heap.size 3 1 ov (1+2*k) (I (VV l k))/\Below w.heap.size w wr) (λ_ ii _=>N-(intOf ii).toNat)
 case atStart=>exact⟨0,by omega,rfl,by rw[i.o];exact c.1,c.2⟩
 clear c i;obtain⟨k,hk,rfl,b,j⟩:=hrel;obtain⟨g,P,T,a2,a3⟩:=zG b (by omega);subst T;by_cases m:k<N
 ·obtain⟨G,hG,A,c1,c2⟩:=HC.o k m;subst hG;have k1:=(j.cell (p:=⟨G,k*2,none⟩) A).trans c1;have k2:=(j.cell (p:=⟨G,k*2+1,none⟩) A).trans c2;have S:=Ij HM k;have t:=zb (EB (l:=l) (k:=k) (by rw[<-x.o];exact m));generalize l.getD k (0,0)=p at *;obtain⟨n,r⟩:=p;simp only at k1 k2 S t;obtain⟨M,f⟩:=Ww (1+2*k);have a1:M<=2001:=by have:=f.o;omega
  rw[<-f.o]at b ⊢;have F:=zb j;have H:=zb b;have a4:=j.size;have R:Below wr.heap.size wr (wr.alloc (.cells #[.int .i64 n,.int .i64 r] 3)).drew:=(VE wr _).drew;have Q:(wr.alloc (.cells #[.int .i64 n,.int .i64 r] 3)).drew.heap[wr.heap.size]?=some (.cells #[.int .i64 n,.int .i64 r] 3 (0,0)):=xp wr _;have E:∀u∈([.int .i64 n,.int .i64 r]:List Value),u.oneCell'=true:=by intro u hu;simp at hu;rcases hu with rfl|rfl<;>rfl
  clear b j c1 c2;go_wp2_with fail;go_region_law (refine YG _ rfl _ _ 55 rfl w.heap.size 3 i0 (.int .i64 0) 1 8 yE hi W X Z rfl (by decide) (.slice (some ⟨g,0,none⟩) M P) M (I (VV l k)) rfl (zg H R) ⟨wr.heap.size,0,none⟩ 2 2 [.int .i64 n,.int .i64 r] rfl rfl (yr Q) E (by decide) (by unfold maxLen;omega) (by omega) (by simp;omega) (wr.heap.size+1) (by simp) ?_;intro g5 z w5 d C B D)
  all_goals
   have J:Ha (Below w.heap.size w w5):=((F.alloc F.size _).drew).grown C (by simp;omega) (λq hq=>(H.lt q hq).1);have K:Ha (w5.ownsRow w.heap.size 3 1 (.slice (some ⟨g5,0,none⟩) (M+2) z) (M+2) (I (VV l (k+1)))):=by
    unfold Ha;rw[t.o];have e:I (VV l k++[n,r])=I (VV l k)++[.int .i64 n,.int .i64 r]:=by simp[I]
    rw[e];exact d
   clear d C B D;go_wp2_with fail;go_roundw
   case rel=>exact⟨k+1,by omega,by go_num,by rw[show 1+2*(k+1)=M+2 by have:=f.o;omega];exact K,J⟩
   simp[intOf];omega
 obtain rfl:k=N:=by omega
 have H:Ha (wr.ownsRow w.heap.size 3 1 (.slice (some ⟨g,0,none⟩) (1+2*k) P) (1+2*k) (I (VW l))):=by rw[<-s.o];exact b
 have F:=zb j;clear b j m;go_wp2_with fail;go_ret;exact⟨F,g,P,rfl,H⟩
def bU(l:L):List Nat:=[l.id,l.gd,l.ex,l.place,l.free,l.hd,l.sh,l.sc]++VW (zT l.par)++(if (zT l.par).length=0 then [l.got] else [])
def bV(o:O):List Nat:=[o.id,o.gd]++VW (cA o.li)
def Zb(x:Nat->Nat)(N:Nat):Nat->Nat->List Nat
 |0,_=>[]
 |f+1,n=>match Wx x n N with
  |none=>[]
  |some i=>i::Zb x N f (x i)
def Co(x:Nat->Nat)(n:Nat):Nat->Nat
 |0=>0
 |k+1=>Co x n k+(if n<x k then 1 else 0)
def bK(x:Nat->Nat)(n:Nat):∀k,Co x n k<=k
 |0=>xe _
 |k+1=>by
  have:=bK x n k
  rw[Co];split<;>omega
def Ai(x:Nat->Nat){n m:Nat}(h:n<=m):∀k,Co x m k<=Co x n k
 |0=>xe _
 |k+1=>by
  have:=Ai x h k
  rw[Co,Co];split
  ·rw[xh (by omega)];omega
  split<;>omega
def pS(x:Nat->Nat){n i:Nat}(b:n<x i):∀k,i<k->Co x (x i) k<Co x n k
 |0,h=>absurd h (by omega)
 |k+1,h=>by
  rw[Co,Co];by_cases a:i=k
  ·subst a;have:=Ai x (xcm b) i;rw[xg (by omega),xh b];omega
  have:=pS x b k (by omega)
  split
  ·rw[xh (by omega)];omega
  split<;>omega
def WR(ls:List L):List Nat:=(Zb (λi=>(ls.getD i L0).id) ls.length (ls.length+1) 0).flatMap (λi=>bU (ls.getD i L0))
def WT(os:List O):List Nat:=(Zb (λi=>(os.getD i O0).id) os.length (os.length+1) 0).flatMap (λi=>bV (os.getD i O0))
def WS(td:Nat)(os:List O)(rj:List (Nat×Nat))(ls:List L):List Nat:=[td,ls.length,ls.length]++WR ls++[os.length]++WT os++VW (cA rj)
def WO(td:Nat)(os:List O)(rj:List (Nat×Nat))(ls:List L):List UInt8:=13::Pl.toldB (WS td os rj ls)
variable {x:Nat->Nat}
def IT{f:Nat}(h:Wx x n N=some i):Zb x N (f+1) n=i::Zb x N f (x i):=by rw[Zb,h]
def IU(h:Wx x n N=none):∀f,Zb x N f n=[]
 |0=>rfl
 |f+1=>by rw[Zb,h]
structure En(x:Nat->Nat)(N:Nat)(done:List Nat)(cur:Nat):Prop where
 eq:Zb x N (N+1) 0=done++Zb x N (N+1-done.length) cur
 cnt:done.length+Co x cur N<=N
def En.start(x:Nat->Nat)(N:Nat):En x N [] 0:=⟨by simp,by simpa using bK x 0 N⟩
variable {done:List Nat}
def En.step(h:En x N done cur)(a:Wx x cur N=some i):En x N (done++[i]) (x i):=by
 obtain⟨b,c⟩:=jW a;have d:=pS x c N b;have e:=h.cnt;refine⟨?_,by rw[xc,Xw];omega⟩;rw[h.eq,xc,Xw,show N+1-done.length=(N+1-(done.length+1))+1 by omega,IT a];simp
def En.stop(h:En x N done cur)(a:Wx x cur N=none):Zb x N (N+1) 0=done:=by
 rw[h.eq,IU a,yo]
def En.len(h:En x N done cur):done.length<=N:=by have:=h.cnt;omega
def Wr(x:Nat->Nat)(N:Nat)(iv:Value):Nat:=if intOf iv<0 then 0 else 1+Co x (x (intOf iv).toNat) N
def xG:Wr x N (.int .i64 (Wn (Wx x (x i) N)))<Wr x N (.int .i64 i):=by
 have e:Wr x N (.int .i64 i)=1+Co x (x i) N:=by
  unfold Wr;rw[xg (by show ¬(i:Int)<0;omega)];rfl
 rw[e]
 cases d:Wx x (x i) N with
 |none=>
  have:Wr x N (.int .i64 (Wn none))=0:=by unfold Wr;rw[xh (by show(-1:Int)<0;omega)]
  rw[this];omega
 |some j=>
  obtain⟨b,c⟩:=jW d;have:=pS x c N b;have a:Wr x N (.int .i64 (Wn (some j)))=1+Co x (x j) N:=by
   unfold Wr;rw[xg (by show ¬(j:Int)<0;omega)];rfl
  rw[a];omega
def xF{l:L}(h:L.Ok l):(bU l).length<=14:=by
 have a:=ZN l.par;have b:=h.par.1;have c:(VW (zT l.par)).length=1+2*(zT l.par).length:=by rw[<-eK,eL (xe _)]
 unfold bU;simp only[xc,List.length_cons,XO];split
 ·simp;omega
 simp;omega
def aG{f:Nat->List Nat}(b:Nat):∀l:List Nat,(∀i∈l,(f i).length<=b)->(l.flatMap f).length<=l.length*b
 |[],_=>by simp
 |i::l,h=>by
  have:=aG b l (λj a=>h j (by simp[a]))
  have c:=h i (by simp);rw[yb,xc,List.length_cons,Nat.succ_mul];omega
def eV(l:List (Nat×Nat)):(cA l).length=l.length:=xO l l.length
def Fb(o:O):(bV o).length=3+2*o.li.length:=by
 have a:(VW (cA o.li)).length=1+2*o.li.length:=by rw[<-eK,eL (xe _),eV]
 unfold bV;simp only[xc,List.length_cons,XO,a];omega
def jU(w1:World)(a:Array Value)(t:TypeId)(b:Nat)(c:b=w1.heap.size):∀(j:Nat) (u:Value),a.toList[j]?=some u->(w1.alloc (.cells a t)).cell? (Addr.add ⟨b,0,none⟩ j)=some u:=by
 subst c;exact yr (xp w1 _)
def xI{g cap:Nat}{a:List Nat}(h:w.ownsRow base 3 1 (.slice (some ⟨g,0,none⟩) n cap) n (I a))(e:n=a.length):∀(j:Nat) (u:Value),(I a)[j]?=some u->w.cell? (Addr.add ⟨g,0,none⟩ j)=some u:=by
 subst e;intro j u b;have c:j<a.length:=by
  rcases xai j a.length with h|h
  ·exact h
  rw[XJ (by simpa [I] using h)]at b;cases b
 have d:Addr.add ⟨g,0,none⟩ j=⟨g,j,none⟩:=by unfold Addr.add;split<;>simp_all
 rw[d,ZB h j c,<-b];simp[I,Wc,c]
def BZ(h:RV os rj ro w R v td rec fs ls)(k9:UB os)(p4:∀n∈WS td os rj ls,n<9223372036854775808)(i6:∀l∈ls,∀p∈l.par,p.2<9223372036854775808)(i5:∀o∈os,∀p∈o.li,p.1<9223372036854775808/\p.2<9223372036854775808)(i7:∀p∈rj,p.1<9223372036854775808/\p.2<9223372036854775808):Calls prog 56 #[.pointer (some ⟨R,0,none⟩)] w λe w'=>Below w.heap.size w w'/\e=.returned (.string ⟨(WO td os rj ls).toArray⟩):=by
 obtain⟨i0,X,d5,d6,d7⟩:=XT Gq;have HP:=zb h;have j4:=zb k9;have n5:=zb p4;have n1:=zb i6;have m5:=zb i5;have i4:=zb i7;clear p4 i6 i5 i7;have e8:=zb (λ(wx:World) (hx:Below w.heap.size w wx) (n:Nat) (hn:n<=2147483647)=>JZ (h.below hx) n hn);have k0:=zb (λ(wx:World) (hx:Below w.heap.size w wx) (n:Nat) (hn:n<=2147483647)=>Dx (h.below hx) k9 n hn);have c0:=h.c0;have c1:=h.c1;obtain⟨a,cap,hv,i8⟩:=h.shape;rw[hv]at c1;have u5:=h.today;have l5:=h.room;have n3:=zb i8;obtain⟨N,hN⟩:∃N,N=ls.length:=⟨_,rfl⟩
 have c9:=zb hN;rw[<-hN]at c1 l5;have e3:=zc h.store;clear h k9 hv i8 hN;go_enter func56,ntmps56;go_wp2_with fail;go_region_held3 (λw'=>w'.cell? ⟨R,0,none⟩=some (.int .i64 td)/\w'.cell? ⟨R,1,none⟩=some (.slice a N cap)) (go_keep) (fail);have e5:Ha (Below w.heap.size w (w.alloc (.cells #[.int .i64 td,.int .i64 N,.int .i64 N] 3)).drew):=(VE w _).drew;have j8:Ha ((w.alloc (.cells #[.int .i64 td,.int .i64 N,.int .i64 N] 3)).drew.ownsRow w.heap.size 3 1 (.slice (some ⟨w.heap.size,0,none⟩) 3 3) [td,N,N].length (I [td,N,N])):=by
  refine⟨by simp[I],Or.inr ⟨w.heap.size,3,#[.int .i64 td,.int .i64 N,.int .i64 N],rfl,xe _,xp w _,?_⟩⟩;simp[I];unfold maxLen;omega
 obtain⟨w1,n8⟩:∃w1,Ha (w1=(w.alloc (.cells #[.int .i64 td,.int .i64 N,.int .i64 N] 3)).drew):=⟨_,rfl⟩
 rw[<-n8.o]at e5 j8 ⊢;clear n8;obtain⟨x,f4⟩:∃x:Nat->Nat,Ha (x=λi=>(ls.getD i L0).id):=⟨_,rfl⟩
 rw[<-f4.o,<-c9.o]at e8;go_wp2_with fail;refine(e8 _ e5 0 (by omega)).mono ?_
 rintro e w2 ⟨rfl,k5⟩;obtain⟨iz,m3⟩:=Ww (Wn (Wx x 0 N));rw[<-m3.o];have l8:Ha (Below w.heap.size w w2):=e5.trans (k5.mono e5.size);have m8:=zb (zg j8 k5);clear k5 e5 j8;go_wp2_with fail;have j9:Ha (∀i,i<N->L.Ok (ls.getD i L0)):=λi X=>HP.ok _ (zf (by rw[<-c9.o];exact X))
 have r4:Ha (∀i,i<N->x i<=2147483647):=λi X=>by rw[f4.o];exact(j9 i X).id
 obtain⟨F,h6⟩:∃F:Nat->List Nat,Ha (F=λi=>bU (ls.getD i L0)):=⟨_,rfl⟩
 have m2:Ha (∀i,i<N->(F i).length<=14):=λi X=>by rw[h6.o];exact xF (j9 i X)
 go_loopw [3,4,5] (λnv iv _ wr=>∃(done:List Nat) (d0:Nat),iv=.int .i64 (Wn (Wx x d0 N))/\En x N done d0/\(∀i∈done,i<N)/\wr.ownsRow w.heap.size 3 1 nv ([td,N,N]++done.flatMap F).length (I ([td,N,N]++done.flatMap F))/\Below w.heap.size w wr) (λ_ iv _ _=>Wr x N iv)
 case atStart=>exact⟨[],0,by rw[m3.o],En.start x N,(λi h=>by cases h),m8,l8⟩
 clear m8 l8;obtain⟨done,d0,rfl,a2,a8,k,P⟩:=hrel;have f7:([td,N,N]++done.flatMap F).length<=500:=by
  have h1:=aG 14 done (λi X=>m2 i (a8 i X));have h2:=a2.len;rw[xc];simp only[List.length_cons,XO];omega
 cases Z:Wx x d0 N with
 |some i=>
  obtain⟨a3,t2⟩:=jW Z;have h5:=zb (a2.step Z);have h4:Ha (∀j∈done++[i],j<N):=λj hj=>by
   rcases xx.1 hj with h|h
   ·exact a8 j h
   simp at h;omega
  obtain⟨G,hG,z,d8⟩:=n3.o (by rw[<-c9.o];omega);have j1:Ha (F i=bU (ls.getD i L0)):=by rw[h6.o];rfl
  have p5:x i=(ls.getD i L0).id:=by rw[f4.o]
  have n2:=zb (PRow.prs (HP.from (i:=i) (by rw[<-c9.o];exact a3)));have p0:=j9.o i a3;have W:=λj hj=>d8 i (by rw[<-c9.o];exact a3) j hj
  have j3:Ha (w.cell? ⟨G,i*11,none⟩=some (.int .i64 (x i:Int))):=by rw[p5];exact W 0 (by omega)
  generalize k8:fs.getD i default=fv at *;generalize s5:ls.getD i L0=l at *;have u2:=xl z P.size;have q0:wr.cell? ⟨G,i*11,none⟩=some (.int .i64 l.id):=(P.cell (p:=⟨G,i*11+0,none⟩) z).trans (W 0 (by omega));have q1:wr.cell? ⟨G,i*11+1,none⟩=some (.int .i64 l.gd):=(P.cell (p:=⟨G,i*11+1,none⟩) z).trans (W 1 (by omega));have q2:wr.cell? ⟨G,i*11+2,none⟩=some (.int .i64 l.ex):=(P.cell (p:=⟨G,i*11+2,none⟩) z).trans (W 2 (by omega));have q3:wr.cell? ⟨G,i*11+3,none⟩=some (.int .i64 l.place):=(P.cell (p:=⟨G,i*11+3,none⟩) z).trans (W 3 (by omega));have q4:wr.cell? ⟨G,i*11+4,none⟩=some (.int .i64 l.got):=(P.cell (p:=⟨G,i*11+4,none⟩) z).trans (W 4 (by omega));have q5:wr.cell? ⟨G,i*11+5,none⟩=some (.int .i64 l.free):=(P.cell (p:=⟨G,i*11+5,none⟩) z).trans (W 5 (by omega));have q6:wr.cell? ⟨G,i*11+6,none⟩=some (.int .i64 l.hd):=(P.cell (p:=⟨G,i*11+6,none⟩) z).trans (W 6 (by omega));have q7:wr.cell? ⟨G,i*11+7,none⟩=some (.int .i64 l.sh):=(P.cell (p:=⟨G,i*11+7,none⟩) z).trans (W 7 (by omega));have q8:wr.cell? ⟨G,i*11+8,none⟩=some (.int .i64 l.sc):=(P.cell (p:=⟨G,i*11+8,none⟩) z).trans (W 8 (by omega));have q9:wr.cell? ⟨G,i*11+9,none⟩=some (.int .i64 l.gv):=(P.cell (p:=⟨G,i*11+9,none⟩) z).trans (W 9 (by omega));have t5:wr.cell? ⟨G,i*11+10,none⟩=some fv:=(P.cell (p:=⟨G,i*11+10,none⟩) z).trans (W 10 (by omega));obtain⟨fa,fc,k7,-⟩:=n2.o;have r1:=(P.cell (p:=⟨R,1,none⟩) e3).trans c1;rw[hG]at r1;have j2:=zb hG;clear hG;generalize hT:[td,N,N]++done.flatMap F=T at *;obtain⟨M,hM⟩:∃M,M=T.length:=⟨_,rfl⟩
  have e9:=zb hM;rw[<-hM]at k f7;have r8:3<=M:=by
   rw[hM,<-hT,xc];simp only[List.length_cons,XO];omega
  obtain⟨gn,nc,l2,-,s3⟩:=zG k (by omega);subst l2;have HO:=zb k;have HB:=zb P;have k4:=zb hT;simp only[Wn];clear k P W d8 a2 a8 Z hT hM;subst k7;go_wp2_with (at_builtin;refine Xr _ rfl _ _ 55 rfl w.heap.size 3 i0 (.int .i64 0) 1 8 yE X d5 d6 d7 rfl (by decide) _ M (I T) rfl ((HO.alloc _).alloc _) ⟨wr.heap.size+1,0,none⟩ 8 8 [.int .i64 l.id,.int .i64 l.gd,.int .i64 l.ex,.int .i64 l.place,.int .i64 l.free,.int .i64 l.hd,.int .i64 l.sh,.int .i64 l.sc] rfl rfl ?d11 ?d21 ?d31 ?d41 ?d51 ?_)
  case d11=>exact jU _ _ _ _ (by simp)
  case d21=>intro u hu;simp at hu;rcases hu with rfl|rfl|rfl|rfl|rfl|rfl|rfl|rfl<;>rfl
  case d31=>unfold maxLen;omega
  case d41=>omega
  case d51=>have:=HB.size;simp;omega
  intro g7 w3 d c b7;have E:Ha (Below w.heap.size w w3):=((HB.alloc HB.size _).alloc (by have:=HB.size;simp;omega) _).grown c (by have:=HB.size;simp;omega) (λq Z=>(HO.lt q Z).1);obtain⟨A8,h0⟩:∃A:List Nat,Ha (A=[l.id,l.gd,l.ex,l.place,l.free,l.hd,l.sh,l.sc]):=⟨_,rfl⟩
  have b6:Ha (w3.ownsRow w.heap.size 3 1 g7 (M+8) (I (T++A8))):=by
   unfold Ha;have e:I (T++A8)=I T++[.int .i64 l.id,.int .i64 l.gd,.int .i64 l.ex,.int .i64 l.place,.int .i64 l.free,.int .i64 l.hd,.int .i64 l.sh,.int .i64 l.sc]:=by rw[h0.o];simp[I]
   rw[e];exact d
  have Q:w3.heap[wr.heap.size]?=some (.cells #[.int .i64 l.id,.int .i64 l.gd,.int .i64 l.ex,.int .i64 l.place,.int .i64 l.got,.int .i64 l.free,.int .i64 l.hd,.int .i64 l.sh,.int .i64 l.sc,.int .i64 l.gv,.slice fa (zT l.par).length fc] 129 (0,0)):=by
   rw[c.block wr.heap.size (by simp;omega) (by simp[Value.ownBlock];omega),yl _ _ _ (by simp)];exact xp wr _
  obtain⟨g3,c3,l6,-,o7⟩:=zG d (by omega);subst l6;obtain⟨bx,k6⟩:∃bx,bx=wr.heap.size:=⟨_,rfl⟩
  have r9:g3≠bx:=λe=>by
   obtain⟨cs,o6⟩:=zh d (g:=g3) rfl;rw[e,k6,Q]at o6;simp at o6
  rw[<-k6]at Q ⊢;have r6:w3.cell? ⟨bx,10,none⟩=some (.slice fa (zT l.par).length fc):=by rw[za Q];rfl
  have m0:=zb Q;have o4:bx<w3.heap.size:=zc Q;have s7:=ZN l.par;have u4:=p0.par.1;have i2:=zb (wH (n2.below E) (by omega) (λp hp=>by
   rw[gK]at hp;exact⟨by have:=p0.par.2 p hp;omega,n1 l (by rw[<-s5];exact zf (by rw[<-c9.o];exact a3)) p hp⟩))
  generalize b0:(zT l.par).length=kk at *;have a5:=zb b0;have t8:kk<=2:=by omega
  clear d c b7 HO HB q0 q1 q2 q3 q4 q5 q6 q7 q8 q9 t5 Q k6 b0 s7 k8 p5;go_wp2_with fail;refine i2.mono ?_
  rintro e w4 ⟨B,g4,c4,rfl,C⟩;have J:Ha (Below w.heap.size w w4):=E.trans (B.mono E.size);have a6:=zb (zg b6 B);have i1:Ha (w4.heap[bx]?=w3.heap[bx]?):=B.block bx o4;have o5:=xl o4 B.size;have l1:1+2*kk=(VW (zT l.par)).length:=by rw[<-eK,eL (xe _),a5.o]
  have b5:=zb (xI C l1);have a4:=zb l1;have i9:=J.size;clear B C i2 E b6 r6 l1;go_wp2_with (at_builtin;refine Xr _ rfl _ _ 55 rfl w.heap.size 3 i0 (.int .i64 0) 1 8 yE X d5 d6 d7 rfl (by decide) _ (M+8) (I (T++A8)) rfl a6 ⟨g4,0,none⟩ (1+2*kk) c4 (I (VW (zT l.par))) rfl ?e01 ?e11 ?e21 ?e31 ?e41 ?e51 ?_)
  case e01=>rw[vA,<-a4.o];omega
  case e11=>exact b5
  case e21=>intro u hu;simp only[I,Xz]at hu;obtain⟨n,_,rfl⟩:=hu;rfl
  case e31=>unfold maxLen;omega
  case e41=>omega
  case e51=>exact i9
  intro t4 w5 s a9 o9;have t:Ha (Below w.heap.size w w5):=J.grown a9 i9 (λq Z=>(a6.lt q Z).1);have S:Ha (w5.ownsRow w.heap.size 3 1 t4 (M+8+(1+2*kk)) (I (T++A8++VW (zT l.par)))):=by
   unfold Ha;have e:I (T++A8++VW (zT l.par))=I (T++A8)++I (VW (zT l.par)):=by simp[I]
   rw[e];exact s
  have f5:w5.heap[bx]?=_:=((a9.block bx o5 (by simp[Value.ownBlock];exact λe=>r9 e.symm)).trans i1).trans m0;have u9:w5.cell? ⟨bx,10,none⟩=some (.slice fa kk fc):=by rw[za f5,<-a5.o];rfl
  have s4:w5.cell? ⟨bx,4,none⟩=some (.int .i64 l.got):=by rw[za f5];rfl
  obtain⟨g5,c5,t1,-,t7⟩:=zG s (by omega);subst t1;have h7:Ha (bU l=A8++VW (zT l.par)++(if kk=0 then [l.got] else [])):=by unfold Ha bU;rw[h0.o,a5.o]
  have n6:Ha ([td,N,N]++(done++[i]).flatMap F=T++bU l):=by
   unfold Ha;rw[yw,<-yc,k4.o,<-j1.o];simp
  have e7:Ha (∀wx,Below w.heap.size w wx->wx.cell? ⟨R,1,none⟩=some (.slice (some ⟨G,0,none⟩) N cap)/\wx.cell? ⟨G,i*11,none⟩=some (.int .i64 (x i:Int))):=λwx hx=>by
   refine⟨?_,?_⟩
   ·rw[<-j2.o];exact(hx.cell (p:=⟨R,1,none⟩) e3).trans c1
   exact(hx.cell (p:=⟨G,i*11,none⟩) z).trans (j3)
  have j0:=r4.o i a3;clear s a9 o9 a6 J b5 a4 f5 i1 r1;by_cases l0:kk=0
  ·rw[xh l0]at h7;subst l0;go_wp2_with (at_builtin;refine Xr _ rfl _ _ 55 rfl w.heap.size 3 i0 (.int .i64 0) 1 8 yE X d5 d6 d7 rfl (by decide) _ _ (I (T++A8++VW (zT l.par))) rfl (S.alloc _) ⟨w5.heap.size,0,none⟩ 1 1 [.int .i64 l.got] rfl rfl ?f11 ?f21 ?f31 ?f41 ?f51 ?_)
   case f11=>exact Zy _ _ _
   case f21=>intro u hu;simp at hu;subst hu;rfl
   case f31=>unfold maxLen;omega
   case f41=>omega
   case f51=>have:=t.size;simp;omega
   intro g8 w6 m f b8;have D:Ha (Below w.heap.size w w6):=(t.alloc t.size _).grown f (by have:=t.size;simp;omega) (λq Z=>(S.lt q Z).1);have a0:Ha (w6.ownsRow w.heap.size 3 1 g8 ([td,N,N]++(done++[i]).flatMap F).length (I ([td,N,N]++(done++[i]).flatMap F))):=by
    unfold Ha;rw[n6.o,h7.o];have e:I (T++(A8++VW (zT l.par)++[l.got]))=I (T++(A8++VW (zT l.par)))++[.int .i64 l.got]:=by simp[I]
    have e2:(T++(A8++VW (zT l.par)++[l.got])).length=M+8+1+1:=by
     have h1:(VW (zT l.par)).length=1:=by rw[<-eK,eL (xe _),a5.o]
     simp only[xc,List.length_cons,XO,h1,h0.o,<-e9.o]
    rw[e,e2];exact m
   obtain⟨r1,r2⟩:=e7.o w6 D;clear m f b8 S t;go_wp2_with fail;refine(e8 _ D (x i) j0).mono ?_
   rintro e w9 ⟨rfl,a1⟩;have e6:Ha (Below w.heap.size w w9):=D.trans (a1.mono D.size);have f1:=zb (zg a0 a1);clear a1 a0 D;have f8:=xG (x:=x) (N:=N) (i:=i);have b4:=zb f8;clear f8;obtain⟨ij,b3⟩:=Ww (Wn (Wx x (x i) N));rw[<-b3.o]at b4 ⊢;go_wp2_with fail;go_roundw
   case rel=>exact⟨done++[i],x i,by rw[b3.o];rfl,h5,h4,f1,e6⟩
   exact b4
  rw[xg l0,yo]at h7;have u1:((kk:Int)==0)=false:=by rw[xr];omega
  obtain⟨r1,r2⟩:=e7.o w5 t;have a0:Ha (w5.ownsRow w.heap.size 3 1 (.slice (some ⟨g5,0,none⟩) (M+8+(1+2*kk)) c5) ([td,N,N]++(done++[i]).flatMap F).length (I ([td,N,N]++(done++[i]).flatMap F))):=by
   unfold Ha;rw[n6.o,h7.o];have e2:(T++(A8++VW (zT l.par))).length=M+8+(1+2*kk):=by
    have h1:(VW (zT l.par)).length=1+2*kk:=by rw[<-eK,eL (xe _),a5.o]
    simp only[xc,List.length_cons,XO,h1,h0.o,<-e9.o];omega
   rw[e2,<-yc];exact S
  clear S;go_wp2_with fail;refine(e8 _ t (x i) j0).mono ?_
  rintro e w9 ⟨rfl,a1⟩;have e6:Ha (Below w.heap.size w w9):=t.trans (a1.mono t.size);have f1:=zb (zg a0 a1);clear a1 a0 t;have f8:=xG (x:=x) (N:=N) (i:=i);have b4:=zb f8;clear f8;obtain⟨ij,b3⟩:=Ww (Wn (Wx x (x i) N));rw[<-b3.o]at b4 ⊢;go_wp2_with fail;go_roundw
  case rel=>exact⟨done++[i],x i,by rw[b3.o];rfl,h5,h4,f1,e6⟩
  exact b4
 |none=>
  have r3:Ha ([td,N,N]++done.flatMap F=[td,ls.length,ls.length]++WR ls):=by
   unfold Ha WR;rw[<-c9.o,<-f4.o,<-h6.o,a2.stop Z]
  have HB:=zb P;have HO:=zb k;rw[r3.o]at HO f7;obtain⟨oa,g9,l4,f9⟩:=HP.ord.shape;have e4:wr.cell? ⟨R,2,none⟩=some ro.ov:=(P.cell (p:=⟨R,2,none⟩) e3).trans HP.c2;rw[l4]at e4;have f2:Ha (w.cell? ⟨R,2,none⟩=some (.slice oa os.length g9)):=by rw[<-l4];exact HP.c2
  have n0:=zb f9;have l3:=j4.olen;obtain⟨K,hK⟩:∃K,K=os.length:=⟨_,rfl⟩
  have d9:=zb hK;rw[<-hK]at e4 l3 f2;generalize hT:[td,ls.length,ls.length]++WR ls=T at *;have k4:=zb hT;obtain⟨M,hM⟩:∃M,M=T.length:=⟨_,rfl⟩
  have e9:=zb hM;rw[<-hM]at HO f7;have r8:3<=M:=by
   rw[hM,<-hT,xc];simp only[List.length_cons,XO];omega
  have l2:=k;obtain⟨gn,nc,b9,-,s3⟩:=zG HO (by omega);subst b9;simp only[Wn];clear k l2 P a2 a8 Z hT hM l4 f9 hK m2 h6 n3 e8 f4;go_wp2_with (at_builtin;refine Xr _ rfl _ _ 55 rfl w.heap.size 3 i0 (.int .i64 0) 1 8 yE X d5 d6 d7 rfl (by decide) _ M (I T) rfl (HO.alloc _) ⟨wr.heap.size,0,none⟩ 1 1 [.int .i64 K] rfl rfl ?h11 ?h21 ?h31 ?h41 ?h51 ?_)
  case h11=>exact Zy _ _ _
  case h21=>intro u hu;simp at hu;subst hu;rfl
  case h31=>unfold maxLen;omega
  case h41=>omega
  case h51=>have:=HB.size;simp;omega
  intro g7 w3 d c b7;have E:Ha (Below w.heap.size w w3):=(HB.alloc HB.size _).grown c (by have:=HB.size;simp;omega) (λq Z=>(HO.lt q Z).1);have b6:Ha (w3.ownsRow w.heap.size 3 1 g7 (T++[K]).length (I (T++[K]))):=by
   unfold Ha;have e:I (T++[K])=I T++[.int .i64 K]:=by simp[I]
   rw[e,xc,<-e9.o];exact d
  clear d c b7 HO HB e4;have j6:Ha ((T++[K]).length=M+1):=by unfold Ha;rw[xc,<-e9.o];rfl
  obtain⟨y,h9⟩:∃y:Nat->Nat,Ha (y=λi=>(os.getD i O0).id):=⟨_,rfl⟩
  rw[<-h9.o,<-d9.o]at k0;have j7:Ha (∀i,i<K->os.getD i O0∈os):=λi X=>by
   have h':i<os.length:=by rw[<-d9.o];exact X
   simp[Wc,h']
  have r5:Ha (∀i,i<K->y i<=2147483647):=λi X=>by rw[h9.o];exact j4.oid _ (j7 i X)
  obtain⟨H,j5⟩:∃H:Nat->List Nat,Ha (H=λi=>bV (os.getD i O0)):=⟨_,rfl⟩
  have m6:Ha (∀i,i<K->(os.getD i O0).li.length<=30):=λi X=>j4.lin _ (j7 i X)
  have p8:Ha (∀i,i<K->(H i).length<=63):=λi X=>by rw[j5.o];show(bV _).length<=63;rw[Fb];have:=m6.o i X;omega
  generalize o2:T++[K]=T1 at *;have r0:=zb o2;clear o2;go_wp2_with fail;refine(k0 _ E 0 (by omega)).mono ?_
  rintro e w4 ⟨rfl,B⟩;obtain⟨u6,i3⟩:=Ww (Wn (Wx y 0 K));rw[<-i3.o];have J:Ha (Below w.heap.size w w4):=E.trans (B.mono E.size);have m9:=zb (zg b6 B);clear B E b6;go_wp2_with fail;go_loopw [3,6,7] (λnv iv _ wr=>∃(done:List Nat) (d0:Nat),iv=.int .i64 (Wn (Wx y d0 K))/\En y K done d0/\(∀i∈done,i<K)/\wr.ownsRow w.heap.size 3 1 nv (T1++done.flatMap H).length (I (T1++done.flatMap H))/\Below w.heap.size w wr) (λ_ iv _ _=>Wr y K iv)
  case atStart=>exact⟨[],0,by rw[i3.o],En.start y K,(λi h=>by cases h),by rw[List.flatMap_nil,yo];exact m9,J⟩
  clear m9 J;obtain⟨r,n9,rfl,a2,a8,k,P⟩:=hrel;have d4:(T1++r.flatMap H).length<=1200:=by
   have h1:=aG 63 r (λi X=>p8 i (a8 i X));have h2:=a2.len;have h3:=j6.o;rw[xc];omega
  cases Z:Wx y n9 K with
  |some i=>
   obtain⟨a3,t2⟩:=jW Z;have h5:=zb (a2.step Z);have h4:Ha (∀j∈r++[i],j<K):=λj hj=>by
    rcases xx.1 hj with h|h
    ·exact a8 j h
    simp at h;omega
   obtain⟨G,hG,z,g0,g1,g2⟩:=n0.o i (by rw[<-d9.o];exact a3);have j1:Ha (H i=bV (os.getD i O0)):=by rw[j5.o];rfl
   have p6:y i=(os.getD i O0).id:=by rw[h9.o]
   have j3:Ha (w.cell? ⟨G,i*3,none⟩=some (.int .i64 (y i:Int))):=by rw[p6];exact g0
   have m7:=zb (HP.ord.li i (by rw[<-d9.o];exact a3));have s6:=m6.o i a3;have m4:=zb (m5 _ (j7 i a3));generalize k8:ro.lvs.getD i default=fv at *;generalize u3:os.getD i O0=o at *;have q0:=(P.cell (p:=⟨G,i*3,none⟩) z).trans g0;have q1:=(P.cell (p:=⟨G,i*3+1,none⟩) z).trans g1;have q2:=(P.cell (p:=⟨G,i*3+2,none⟩) z).trans g2;have e4:w.cell? ⟨R,2,none⟩=some (.slice oa K g9):=f2.o;have r1:=(P.cell (p:=⟨R,2,none⟩) e3).trans e4;rw[hG]at r1;have j2:=zb hG;obtain⟨fa,fc,k7⟩:=zj m7;generalize d1:T1++r.flatMap H=T2 at *;obtain⟨M2,a7⟩:∃M2,M2=T2.length:=⟨_,rfl⟩
   have f0:=zb a7;rw[<-a7]at k d4;have o0:3<=M2:=by
    rw[a7,<-d1,xc,j6.o];omega
   obtain⟨r7,t3,b9,-,o8⟩:=zG k (by omega);subst b9;have HO:=zb k;have HB:=zb P;have f3:=zb d1;subst k7;simp only[Wn];clear k P a2 a8 Z d1 a7 hG g0 g1 g2 p6 e4 k8;go_wp2_with (at_builtin;refine Xr _ rfl _ _ 55 rfl w.heap.size 3 i0 (.int .i64 0) 1 8 yE X d5 d6 d7 rfl (by decide) _ M2 (I T2) rfl ((HO.alloc _).alloc _) ⟨wr.heap.size+1,0,none⟩ 2 2 [.int .i64 o.id,.int .i64 o.gd] rfl rfl ?d11 ?d21 ?d31 ?d41 ?d51 ?_)
   case d11=>exact jU _ _ _ _ (by simp)
   case d21=>intro u hu;simp at hu;rcases hu with rfl|rfl<;>rfl
   case d31=>unfold maxLen;omega
   case d41=>omega
   case d51=>have:=HB.size;simp;omega
   intro g7 w3 d c b7;have E:Ha (Below w.heap.size w w3):=((HB.alloc HB.size _).alloc (by have:=HB.size;simp;omega) _).grown c (by have:=HB.size;simp;omega) (λq Z=>(HO.lt q Z).1);have b6:Ha (w3.ownsRow w.heap.size 3 1 g7 (M2+2) (I (T2++[o.id,o.gd]))):=by
    unfold Ha;have e:I (T2++[o.id,o.gd])=I T2++[.int .i64 o.id,.int .i64 o.gd]:=by simp[I]
    rw[e];exact d
   have Q:w3.heap[wr.heap.size]?=some (.cells #[.int .i64 o.id,.int .i64 o.gd,.slice fa o.li.length fc] 132 (0,0)):=by
    rw[c.block wr.heap.size (by simp;omega) (by simp[Value.ownBlock];omega),yl _ _ _ (by simp)];exact xp wr _
   obtain⟨g3,c3,l6,-,o7⟩:=zG d (by omega);subst l6;have b2:w3.cell? ⟨wr.heap.size,2,none⟩=some (.slice fa o.li.length fc):=by rw[za Q];rfl
   have p1:=Bv (zg m7 E) (by omega) m4;have e1:=zb p1;obtain⟨bx,m1⟩:=Ww wr.heap.size;rw[<-m1.o]at b2 ⊢;generalize b0:o.li.length=kk at *;have a5:=zb b0;clear d c b7 HO HB q0 q1 q2 Q b0 p1 m1;go_wp2_with fail;refine e1.mono ?_
   rintro e w4 ⟨B,v4,rfl,C⟩;have J:Ha (Below w.heap.size w w4):=E.trans (B.mono E.size);have a6:=zb (zg b6 B);have b1:(cA o.li).length=kk:=by rw[eV,a5.o]
   have c8:=zb (wH (l:=cA o.li) (PRow.own (by rw[b1];exact C)) (by omega) (λp hp=>m4 p (oI (xe _) hp)));rw[b1]at c8;have k1:=zb b1;clear B C e1 E b6 b2 b1;go_wp2_with fail;refine c8.mono ?_
   rintro e w5 ⟨d2,g5,c5,rfl,s⟩;have t:Ha (Below w.heap.size w w5):=J.trans (d2.mono J.size);have S:=zb (zg a6 d2);have d3:1+2*kk=(VW (cA o.li)).length:=by rw[<-eK,eL (xe _),k1.o]
   have b5:=zb (xI s d3);have a4:=zb d3;have c7:=t.size;clear d2 s c8 J a6 d3;go_wp2_with (at_builtin;refine Xr _ rfl _ _ 55 rfl w.heap.size 3 i0 (.int .i64 0) 1 8 yE X d5 d6 d7 rfl (by decide) _ (M2+2) (I (T2++[o.id,o.gd])) rfl S ⟨g5,0,none⟩ (1+2*kk) c5 (I (VW (cA o.li))) rfl ?e01 ?e11 ?e21 ?e31 ?e41 ?e51 ?_)
   case e01=>rw[vA,<-a4.o];omega
   case e11=>exact b5
   case e21=>intro u hu;simp only[I,Xz]at hu;obtain⟨n,_,rfl⟩:=hu;rfl
   case e31=>unfold maxLen;omega
   case e41=>omega
   case e51=>exact c7
   intro g8 w6 m f b8;have D:Ha (Below w.heap.size w w6):=t.grown f c7 (λq Z=>(S.lt q Z).1);have a0:Ha (w6.ownsRow w.heap.size 3 1 g8 (T1++(r++[i]).flatMap H).length (I (T1++(r++[i]).flatMap H))):=by
    unfold Ha;have e0:T1++(r++[i]).flatMap H=T2++[o.id,o.gd]++VW (cA o.li):=by
     rw[yw,<-yc,f3.o];have:List.flatMap H [i]=bV o:=by rw[<-j1.o];simp
     rw[this,bV,yc]
    have e:I (T2++[o.id,o.gd]++VW (cA o.li))=I (T2++[o.id,o.gd])++I (VW (cA o.li)):=by simp[I]
    have e2:(T2++[o.id,o.gd]++VW (cA o.li)).length=M2+2+(1+2*kk):=by
     simp only[xc,List.length_cons,XO,<-a4.o,<-f0.o]
    rw[e0,e2,e];exact m
   have e7:Ha (w6.cell? ⟨R,2,none⟩=some (.slice (some ⟨G,0,none⟩) K g9)/\w6.cell? ⟨G,i*3,none⟩=some (.int .i64 (y i:Int))):=by
    refine⟨?_,?_⟩
    ·rw[<-j2.o];exact(D.cell (p:=⟨R,2,none⟩) e3).trans f2
    exact(D.cell (p:=⟨G,i*3,none⟩) z).trans j3
   have p7:=r5.o i a3;obtain⟨u7,u8⟩:=e7.o;obtain⟨g6,c6,l7,-,-⟩:=zG m (by omega);subst l7;clear m f b8 S t b5 a4 r1 e7;go_wp2_with fail;refine(k0 _ D (y i) p7).mono ?_
   rintro e w9 ⟨rfl,a1⟩;have e6:Ha (Below w.heap.size w w9):=D.trans (a1.mono D.size);have f1:=zb (zg a0 a1);clear a1 a0 D;have b4:=zb (xG (x:=y) (N:=K) (i:=i));obtain⟨ij,b3⟩:=Ww (Wn (Wx y (y i) K));rw[<-b3.o]at b4 ⊢;go_wp2_with fail;go_roundw
   case rel=>exact⟨r++[i],y i,by rw[b3.o];rfl,h5,h4,f1,e6⟩
   exact b4
  |none=>
   have n7:Ha (T1++r.flatMap H=T1++WT os):=by
    unfold Ha WT;rw[<-d9.o,<-h9.o,<-j5.o,a2.stop Z]
   have HB:=zb P;have HO:=zb k;rw[n7.o]at HO d4;have p3:wr.cell? ⟨R,3,none⟩=some ro.rv:=(P.cell (p:=⟨R,3,none⟩) e3).trans HP.c3;have k2:=zb HP.ord.fd.rrow;have p2:=HP.rc.len;generalize s9:ro.rv=rv at *;obtain⟨ra,t9,s8⟩:=zj k2;have e1:=zb (Bv (zg k2 P) (by omega) i4);generalize d1:T1++WT os=T2 at *;have f3:=zb d1;obtain⟨M2,a7⟩:∃M2,M2=T2.length:=⟨_,rfl⟩
   have f0:=zb a7;rw[<-a7]at HO d4;have o0:3<=M2:=by
    rw[a7,<-d1,xc,j6.o];omega
   obtain⟨r7,t3,b9,-,o8⟩:=zG HO (by omega);subst b9;subst s8;obtain⟨kk,b0⟩:∃kk,kk=rj.length:=⟨_,rfl⟩
   have a5:=zb b0;rw[<-b0]at p2 e1 p3;simp only[Wn];clear k P a2 a8 Z d1 a7 s9 k2 b0;go_wp2_with fail;refine e1.mono ?_
   rintro e w4 ⟨B,v4,rfl,C⟩;have J:Ha (Below w.heap.size w w4):=HB.trans (B.mono HB.size);have a6:=zb (zg HO B);have b1:(cA rj).length=kk:=by rw[eV,a5.o]
   have c8:=zb (wH (l:=cA rj) (PRow.own (by rw[b1];exact C)) (by omega) (λp hp=>i4 p (oI (xe _) hp)));rw[b1]at c8;have k1:=zb b1;clear B C e1 HB HO b1 p3;go_wp2_with fail;refine c8.mono ?_
   rintro e w5 ⟨d2,g5,c5,rfl,s⟩;have t:Ha (Below w.heap.size w w5):=J.trans (d2.mono J.size);have S:=zb (zg a6 d2);have d3:1+2*kk=(VW (cA rj)).length:=by rw[<-eK,eL (xe _),k1.o]
   have b5:=zb (xI s d3);have a4:=zb d3;have c7:=t.size;clear d2 s c8 J a6 d3;go_wp2_with (at_builtin;refine Xr _ rfl _ _ 55 rfl w.heap.size 3 i0 (.int .i64 0) 1 8 yE X d5 d6 d7 rfl (by decide) _ M2 (I T2) rfl S ⟨g5,0,none⟩ (1+2*kk) c5 (I (VW (cA rj))) rfl ?k01 ?k11 ?k21 ?k31 ?k41 ?k51 ?_)
   case k01=>rw[vA,<-a4.o];omega
   case k11=>exact b5
   case k21=>intro u hu;simp only[I,Xz]at hu;obtain⟨n,_,rfl⟩:=hu;rfl
   case k31=>unfold maxLen;omega
   case k41=>omega
   case k51=>exact c7
   intro g8 w6 m f b8;have D:Ha (Below w.heap.size w w6):=t.grown f c7 (λq Z=>(S.lt q Z).1);have n4:Ha (WS td os rj ls=T2++VW (cA rj)):=by
    unfold Ha WS;rw[<-f3.o,<-r0.o,<-k4.o,<-d9.o]
   have e2:(T2++VW (cA rj)).length=M2+(1+2*kk):=by
    simp only[xc,<-a4.o,<-f0.o]
   have h8:Ha ((WS td os rj ls).length=M2+(1+2*kk)):=by rw[n4.o];exact e2
   have a0:Ha (w6.ownsRow w.heap.size 3 1 g8 (M2+(1+2*kk)) (I (WS td os rj ls))):=by
    unfold Ha;have e:I (T2++VW (cA rj))=I T2++I (VW (cA rj)):=by simp[I]
    rw[n4.o,e];exact m
   obtain⟨g6,c6,l7,-,s0⟩:=zG m (by omega);subst l7;have f6:=λj hj=>ZB (by have:=a0.o;rw[<-h8.o]at this;exact this) j hj
   have k3:=zb (kG g6 c6 (WS td os rj ls) n5 (by rw[h8.o];omega) w6 s0 f6);rw[h8.o]at k3;have t0:=Pl.toldB_len _ n5;rw[h8.o]at t0;have p9:Ha (WO td os rj ls=13::Pl.toldB (WS td os rj ls)):=rfl;generalize o1:Pl.toldB (WS td os rj ls)=PB at *;clear m f b8 S t b5 a4 e2 f6 a0;go_wp2_with fail;refine k3.mono ?_
   rintro e w7 ⟨rfl,o3⟩;have l9:Ha (Below w.heap.size w w7):=D.trans (o3.mono D.size);clear o3 k3 D;have u0:=IF w7 13 (by omega) (by omega) (0,0);have t6:=zb o1;clear o1;go_wp2_with fail;go_ret;exact⟨l9.alloc l9.size _,by rw[p9.o];exact YK (λb=>Ending.returned (.string b)) (YO [13] PB)⟩
def WQ(td:Nat)(os:List O)(rj:List (Nat×Nat))(ls:List L):ByteArray:=Mi ⟨(WO td os rj ls).toArray⟩
def Aq{Z:Nat->Prop}(h:RI os rj Z w R td rec ls)(b:Good os ls)(t:∀n∈WS td os rj ls,n<9223372036854775808)(i:∀l∈ls,∀p∈l.par,p.2<9223372036854775808)(d:∀o∈os,∀p∈o.li,p.1<9223372036854775808/\p.2<9223372036854775808)(j:∀p∈rj,p.1<9223372036854775808/\p.2<9223372036854775808)(C:(WO td os rj ls).length<=4194295):Calls prog 40 #[.pointer (some ⟨R,0,none⟩)] w λe w'=>e=.returned (.tuple #[])/\Kp Z w w'/\RI os rj (Zn Z w) w' R td (WQ td os rj ls) ls:=by
 obtain⟨v,H,ro,c,u,D,E⟩:=h;have G:=zb (BZ c ⟨b.oid,b.olen,λo J=>xj (b.oLines J) c.room⟩ t i d j);have z:=zb c;have F:=zb (λw1=>oA ⟨(WO td os rj ls).toArray⟩ (by rw[YY];simpa using C) w1);have x:Ha (WQ td os rj ls=Mi ⟨(WO td os rj ls).toArray⟩):=rfl;generalize (⟨(WO td os rj ls).toArray⟩:ByteArray)=B at *;clear c b t i d j;go_enter func40,ntmps40;go_wp2_with fail;refine G.mono ?_
 rintro e w1 ⟨q,rfl⟩;have k:=zb q;clear q G;go_wp2_with fail;refine(F _).mono ?_
 rintro e w2 ⟨r,f,rfl,M,s⟩;have m:Ha (Below w.heap.size w w2):=k.trans (r.mono k.size);have a:=zb (z.below m);have y:=zb s;have c4:=a.c4;have K:=ze a.store 4;clear r k s F;go_wp2_with fail;go_end0;refine⟨rfl,?_,v,H,ro,?_,Or.inl u,λg A=>Or.inl (D g A),λg A=>Or.inl (E g A)⟩
 ·exact(Wo m).setCell (p:=⟨R,4,none⟩) (Or.inl u) _
 rw[x.o,<-y.o];exact a.recs _
