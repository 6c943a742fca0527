import Derived.Deep.CutRange
import Derived.Test.YtgcedalggnmooaaGreatDoorHnX
set_option linter.all false
set_option maxRecDepth 100000
set_option maxHeartbeats 800000
namespace Go.Proofs.YtgcedalggnmooaaGreatDoor
open Option renaming none->Y,some->V
open Value renaming slice->U
open Tryz
namespace Pl
def Ft:∀(k n:Nat),n<=k->∃p b,num n=p++[b]/\(∀c∈p,128<=c.toNat)/\b.toNat<128/\val (num n)=n
 |0,n,h=>⟨[],UInt8.ofNat n,by rw[num_lt (by omega)];rfl,by simp,by rw[Yx];omega,by rw[num_lt (by omega)];simp only[val,Yx];omega⟩
 |k+1,n,h=>by
  by_cases a:n<128
  ·exact⟨[],UInt8.ofNat n,by rw[num_lt a];rfl,by simp,by rw[Yx];omega,by rw[num_lt a];simp only[val,Yx];omega⟩
  obtain⟨p,b,e,g,f,i⟩:=Ft k (n / 128) (by omega);refine⟨UInt8.ofNat (n%128+128)::p,b,by rw[num_ge a,e];rfl,λc d=>?_,f,?_⟩
  ·rcases xz.1 d with rfl|d
   ·rw[Yx];omega
   exact g c d
  rw[num_ge a];simp only[val,i,Yx];omega
def read_num(n:Nat)(h:n<9223372036854775808)(a:List UInt8):fst (num n++a)=n/\snd (num n++a)=(num n).length:=by
 obtain⟨p,b,e,l,i,g⟩:=Ft n n (xe _);have r:=num_len n h;have c:(num n).length=p.length+1:=by rw[e];simp
 have d:(num n++a).take (p.length+1)=num n:=by
  rw[<-c,List.take_left'];rfl
 have k:∀j,j<p.length->128<=((num n++a).getD j 0).toNat:=λj f=>by
  rw[e,Ym,WI,yj f,xj f];exact l _ (YD _)
 have m:((num n++a).getD p.length 0).toNat<128:=by
  rw[e,Ym,WI,YI (xe _)];simpa using i
 have q:=(first_stop (num n++a) p.length (by omega) (by rw[xc];omega) k m).1 (by rw[d,g]);rw[d,g]at q;exact⟨q.1,by rw[q.2,c]⟩
def nums_told:∀(b:List Nat),(∀n∈b,n<9223372036854775808)->nums (toldB b)=V b
 |[],_=>rfl
 |n::r,h=>by
  have e:toldB (n::r)=num n++toldB r:=by simp[toldB]
  obtain⟨f,c⟩:=read_num n (h n (by simp)) (toldB r);have d:=num_len_pos n;have a:num n++toldB r≠[]:=λq=>by
   rw[(List.append_eq_nil_iff.1 q).1]at d;simp at d
  rw[e,nums_cons a (by rw[c];omega),f,c,List.drop_left' rfl,nums_told r (λx g=>h x (by simp[g]))];rfl
def cmdB(c:Nat)(ns:List Nat):List UInt8:=UInt8.ofNat c::toldB ns
def dst(s:List Nat×Nat×Nat)(b:UInt8):List Nat×Nat×Nat :=
 if b.toNat<128 then (s.1++[if s.2.2<9 then s.2.1+b.toNat%128*128^s.2.2 else s.2.1],0,0) else (s.1,(if s.2.2<9 then s.2.1+b.toNat%128*128^s.2.2 else s.2.1),s.2.2+1)
end Pl
open Go.RowKit
def pk(c:Int)(n:Nat):Nat:=((if c<0 then -(c+1) else c)%(n:Int)).toNat
def tP(c:Int){n:Nat}(d:0<n):pk c n<n:=by
 unfold pk;have a:=Int.emod_nonneg (if c<0 then -(c+1) else c) (show(n:Int)≠0 by omega);have b:=Int.emod_lt_of_pos (if c<0 then -(c+1) else c) (show(0:Int)<n by omega);omega
def UX(c:Int){n:Nat}(b:0<n):(pk c n:Int)=(if c<0 then -(c+1) else c)%(n:Int):=by
 unfold pk;have a:=Int.emod_nonneg (if c<0 then -(c+1) else c) (show(n:Int)≠0 by omega);omega
def VP(c:Int):Prop:=-9223372036854775808<=c/\c<=9223372036854775807
def Cl(w:World)(g:Nat)(ns:List Nat):Prop:=g<w.heap.size/\∀j,j<ns.length->w.cell? ⟨g,j,Y⟩=V (.int .i64 ((ns.getD j 0:Nat):Int))
variable {w w' w0:World}
def Cl.below{g:Nat}{b:List Nat}(h:Cl w g b)(a:Below w.heap.size w w'):Cl w' g b:=⟨xl h.1 a.size,λj c=>(a.cell (p:=⟨g,j,Y⟩) h.1).trans (h.2 j c)⟩
def sp(k a b c d:Int):Nat×List Nat :=
 match pk k 12 with
 |0=>(1,[pk a 40])
 |1=>(2,[1+pk a 12,1+pk b 3,1+pk c 400,pk d 40])
 |2=>(3,[1+pk a 12,1+pk b 12,1+pk c 400])
 |3=>(4,[1+pk a 12,1+pk b 12,1+pk c 12])
 |4=>(5,[1+pk a 4,1+pk b 3,1+pk c 400,pk d 10,pk (d.tdiv 16) 4])
 |5=>(6,[1+pk a 4])
 |6=>(7,[1+pk a 4])
 |7=>(8,[1+pk a 12,1+pk b 2])
 |8=>(9,[1+pk a 12,1+pk b 2])
 |9=>(10,[1+pk a 12,1+pk c 400])
 |10=>(11,[1+pk a 12])
 |_=>(12,[1+pk a 3,pk d 10])
structure Sv where
 td:Nat
 os:List O
 rj:List (Nat×Nat)
 ls:List L
 lg:List UInt8
def WU(lg:List UInt8)(c:Pl.Cmd)(rep:List UInt8):List UInt8:=match c with
 | .ok (n,ns)=>if rep.getD 0 1=0/\n<=10 then lg++bM (Pl.cmdB n ns) else lg
 | .error _=>lg
def Io(s:Sv)(c:Pl.Cmd):Sv:=⟨(zK s.rj s.td s.os s.ls c).2.1,(zK s.rj s.td s.os s.ls c).2.2.1,(zK s.rj s.td s.os s.ls c).2.2.2.1,(zK s.rj s.td s.os s.ls c).2.2.2.2,WU s.lg c (zK s.rj s.td s.os s.ls c).1⟩
def VA(s:Sv)(c:Pl.Cmd):List UInt8:=(zK s.rj s.td s.os s.ls c).1
def Vd(s:Sv)(c:Pl.Cmd):Sv:={ Io s c with lg:=s.lg }
structure Kv(B:Nat)(w0 w:World)(Z:Nat->Prop)(Lb:Nat)(s:Sv):Prop where
 old:Below B w0 w
 size:B<=w.heap.size
 two:4<=B
 gl:Gl w
 pl:PL s.lg s.os s.rj Z w Lb s.td s.ls
 zin:∀k,Z k->B<=k/\k<w.heap.size
 good:Good s.os s.ls
def Kv.below{B:Nat}{d w w':World}{Z:Nat->Prop}{b:Nat}{s:Sv}(h:Kv B d w Z b s)(a:Below w.heap.size w w'):Kv B d w' Z b s :=
 ⟨h.old.trans (a.mono h.size),xi h.size a.size,h.two,h.gl.below a,h.pl.below a,λk c=>⟨(h.zin k c).1,xl (h.zin k c).2 a.size⟩,h.good⟩
def Kv.room{B:Nat}{d w:World}{Z:Nat->Prop}{a:Nat}{s:Sv}(h:Kv B d w Z a s):s.ls.length<=30:=by
 obtain⟨S,e,lv,_,_,_,_,⟨M,v,f,c,b,_⟩,_⟩:=h.pl;exact b.room
def Kv.ok{B:Nat}{d w:World}{Z:Nat->Prop}{a:Nat}{s:Sv}(h:Kv B d w Z a s):∀l∈s.ls,L.Ok l:=by
 obtain⟨S,e,lv,_,_,_,_,⟨M,v,f,c,b,_⟩,_⟩:=h.pl;exact b.ok
structure Kn(Z:Nat->Prop)(w:World)(Z':Nat->Prop)(w':World):Prop where
 size:w.heap.size<=w'.heap.size
 keep:∀k,k<w.heap.size->¬Z k->w'.heap[k]?=w.heap[k]?/\¬Z' k
def Kn.refl(Z:Nat->Prop)(w:World):Kn Z w Z w:=⟨xe _,λk _ a=>⟨rfl,a⟩⟩
def Kn.trans{Z Z' a:Nat->Prop}{w w' b:World}(h:Kn Z w Z' w')(k:Kn Z' w' a b):Kn Z w a b :=
 ⟨xi h.size k.size,λi c f=>by
  obtain⟨d,e⟩:=h.keep i c f;obtain⟨g,j⟩:=k.keep i (xl c h.size) e;exact⟨g.trans d,j⟩⟩
variable {Z Z':Nat->Prop}
def Kn.below(a:Below w.heap.size w w'):Kn Z w Z w':=⟨a.size,λk b c=>⟨a.block k b,c⟩⟩
def Kn.cl(h:Kn Z w Z' w'){g:Nat}{d:List Nat}(b:Cl w g d)(c:¬Z g):Cl w' g d/\¬Z' g :=
 ⟨⟨xl b.1 h.size,λj e=>(xo (a:=⟨g,j,Y⟩) (h.keep g b.1 c).1).trans (b.2 j e)⟩,(h.keep g b.1 c).2⟩
def Kn.own(h:Kn Z w Z' w'){a e size n:Nat}{v:Value}{xs:List Value}(c:w.ownsRow a e size v n xs)(d:∀g,v.ownBlock=V g->¬Z g):w'.ownsRow a e size v n xs/\∀g,v.ownBlock=V g->¬Z' g :=
 ⟨zd c (λg b=>(h.keep g (c.lt g b).2 (d g b)).1),λg b=>(h.keep g (c.lt g b).2 (d g b)).2⟩
def Rx(lg b:List UInt8)(c:Nat)(a:List Nat)(h:a.length<=5)(d:∀n∈a,n<9223372036854775808):(WU lg (.ok (c,a)) b).length<=lg.length+64:=by
 have e:=Pl.toldB_len a d;have f:(Pl.cmdB c a).length<=46:=by unfold Pl.cmdB;rw[List.length_cons];omega
 have g:=wP (Pl.cmdB c a) (by omega);unfold WU;simp only[];split
 ·rw[xc];omega
 omega
def Kx(j:Nat)(B:Nat)(w0 w:World)(Z:Nat->Prop)(Lb:Nat)(s:Sv):Prop:=∃lg,lg.length<=200000000+64*j/\Kv B w0 w Z Lb { s with lg:=lg }
variable {B Lb R j:Nat}{s:Sv}
def Kx.of(h:Kv B w0 w Z Lb s)(a:s.lg.length<=200000000+64*j):Kx j B w0 w Z Lb s:=⟨s.lg,a,h⟩
def Kx.below{j B:Nat}{b w w':World}{Z:Nat->Prop}{a:Nat}{s:Sv}(h:Kx j B b w Z a s)(e:Below w.heap.size w w'):Kx j B b w' Z a s:=by
 obtain⟨lg,c,d⟩:=h;exact⟨lg,c,d.below e⟩
def Kx.old{j B:Nat}{a w:World}{Z:Nat->Prop}{b:Nat}{s:Sv}(h:Kx j B a w Z b s):Below B a w:=h.choose_spec.2.old
def Kx.size{j B:Nat}{b w:World}{Z:Nat->Prop}{a:Nat}{s:Sv}(h:Kx j B b w Z a s):B<=w.heap.size:=h.choose_spec.2.size
def Kx.zin{j B:Nat}{b w:World}{Z:Nat->Prop}{a:Nat}{s:Sv}(h:Kx j B b w Z a s):∀k,Z k->B<=k/\k<w.heap.size:=h.choose_spec.2.zin
def Kx.good{j B:Nat}{b w:World}{Z:Nat->Prop}{a:Nat}{s:Sv}(h:Kx j B b w Z a s):Good s.os s.ls:=h.choose_spec.2.good
def Kx.room{j B:Nat}{b w:World}{Z:Nat->Prop}{a:Nat}{s:Sv}(h:Kx j B b w Z a s):s.ls.length<=30:=h.choose_spec.2.room
def Kx.ok{j B:Nat}{b w:World}{Z:Nat->Prop}{a:Nat}{s:Sv}(h:Kx j B b w Z a s):∀l∈s.ls,L.Ok l:=h.choose_spec.2.ok
def Kx.up{a:Nat}(h:Kx j B w0 w Z Lb s)(d:j<=a):Kx a B w0 w Z Lb s:=by
 obtain⟨lg,c,b⟩:=h;exact⟨lg,by omega,b⟩
def Kx.step{lg:List UInt8}(d:lg.length<=200000000+64*j){c:Nat}{a:List Nat}(b:a.length<=5)(e:∀n∈a,n<9223372036854775808)(h:Kv B w0 w Z Lb (Io { s with lg:=lg } (.ok (c,a)))):Kx (j+1) B w0 w Z Lb (Vd s (.ok (c,a))) :=
 ⟨_,by have:=Rx lg (VA s (.ok (c,a))) c a b e;exact xi this (by omega),h⟩
def s1:Sv:=⟨0,[],[],[⟨13,9,100,1,5,5,0,0,0,0,[]⟩],bM (Pl.cmdB 2 [13,9,5,100])⟩
def s2:Sv:=⟨0,[],[],[⟨13,9,100,1,5,3,0,0,0,2,[]⟩,⟨14,9,100,2,2,2,0,0,0,0,[(13,2)]⟩],bM (Pl.cmdB 2 [13,9,5,100])++bM (Pl.cmdB 3 [13,14,2])⟩
def MN:Sv:=⟨0,[],[],[],[]⟩
def bD(w:World)(o:Obj)(k:Nat)(h:k=w.heap.size):(w.alloc o).heap[k]?=V o:=by
 subst h;exact xq w o
def CC(w:World):World :=
 (((((w.alloc (.map #[] 0)).alloc (.map #[] 0)).alloc (.map #[] 0)).alloc (.cells #[.int .i64 0,U Y 0 0,.map (V w.heap.size),.map (V (w.heap.size+1)),.map (V (w.heap.size+1+1))] 117)).alloc (.cells #[.pointer (V ⟨w.heap.size+1+1+1,0,Y⟩),U Y 0 0] 91))
def TS(w:World)(d:Gl w):Kv w.heap.size w (CC w) (λk=>w.heap.size<=k/\k<=w.heap.size+4) (w.heap.size+1+1+1+1) MN:=by
 have c:Below w.heap.size w (CC w):=by
  unfold CC;exact(((((xm _ _).alloc (xe _) _).alloc (by simp) _).alloc (by first|(simp;done)|(simp;omega)) _).alloc (by first|(simp;done)|(simp;omega)) _).alloc (by first|(simp;done)|(simp;omega)) _
 have r:(CC w).heap.size=w.heap.size+5:=by unfold CC;simp
 have e:(CC w).heap[w.heap.size]?=V (.map #[] 0):=by
  unfold CC;exact zz (zz (zz (zz (xq w _) (by first|(simp;done)|(simp;omega))) (by first|(simp;done)|(simp;omega))) (by first|(simp;done)|(simp;omega))) (by first|(simp;done)|(simp;omega))
 have f:(CC w).heap[w.heap.size+1]?=V (.map #[] 0):=by
  unfold CC;exact zz (zz (zz (bD _ _ _ (by first|(simp;done)|(simp;omega))) (by first|(simp;done)|(simp;omega))) (by first|(simp;done)|(simp;omega))) (by first|(simp;done)|(simp;omega))
 have j:(CC w).heap[w.heap.size+2]?=V (.map #[] 0):=by
  unfold CC;exact zz (zz (bD _ _ _ (by first|(simp;done)|(simp;omega))) (by first|(simp;done)|(simp;omega))) (by first|(simp;done)|(simp;omega))
 have m:(CC w).heap[w.heap.size+3]?=V (.cells #[.int .i64 0,U Y 0 0,.map (V w.heap.size),.map (V (w.heap.size+1)),.map (V (w.heap.size+1+1))] 117):=by
  unfold CC;exact zz (bD _ _ _ (by first|(simp;done)|(simp;omega))) (by first|(simp;done)|(simp;omega))
 have p:(CC w).heap[w.heap.size+4]?=V (.cells #[.pointer (V ⟨w.heap.size+1+1+1,0,Y⟩),U Y 0 0] 91):=by
  unfold CC;exact bD _ _ _ (by simp)
 generalize CC w=W at *;have q:PV [] [] W (w.heap.size+1+1+1) ⟨w.heap.size+1+1,w.heap.size,w.heap.size+1⟩ (U Y 0 0) 0 [] [] []:=⟨m,⟨⟨.map [],cT j,⟨rfl,λa b _ _=>rfl,λs h=>by cases h⟩⟩,⟨by simp,by simp,by simp⟩,⟨.map [],cT e,⟨rfl,λn _=>rfl,λn _=>rfl,λs h=>by cases h⟩⟩,⟨.map [],cT f,⟨rfl,λa b _ _=>rfl,λa b _ _=>rfl⟩⟩,(by show w.heap.size+1+1≠w.heap.size;omega),(by show w.heap.size+1+1≠w.heap.size+1;omega),(by show w.heap.size≠w.heap.size+1;omega)⟩,yd _ _ _ _,rfl,rfl,λi h=>absurd h (by simp),λi h=>absurd h (by simp),by simp,by omega,λl h=>absurd h (by simp),by simp⟩
 refine⟨c,by omega,d.2.2,d.below c,?_,λk h=>by omega,wU⟩;exact⟨w.heap.size+1+1+1,λk=>w.heap.size<=k/\k<=w.heap.size+3,U Y 0 0,p,by omega,λh=>by omega,λk h=>by omega,⟨_,_,_,_,q,⟨by omega,by show _/\_;simp only[];omega,by show _/\_;simp only[];omega,by show _/\_;simp only[];omega,(λg h=>by cases h),(λk h=>absurd h (by simp)),(λk h=>absurd h (by simp))⟩⟩,⟨yd _ _ _ _,λ_=>rfl⟩,λk h=>by cases h⟩
def RF(w:World)(b:Gl w):Calls prog 36 #[] w λe w'=>∃a Z,e=.returned (.pointer (V ⟨a,0,Y⟩))/\Kv w.heap.size w w' Z a MN:=by
 have c:=@xcy prog;go_enter func36,ntmps36;go_wp2_with (go_at_call 49;go_in);go_ret;exact⟨_,_,rfl,TS w b⟩
def Cp(f:L->Nat)(ls:List L):Nat:=(ls.map f).sum
def FR(f:L->Nat)(a:List L)(l:L):Cp f (a++[l])=Cp f a+f l:=by simp[Cp]
def fB(f:L->Nat):∀(ls:List L) (i:Nat) (l:L),i<ls.length->Cp f (ls.set i l)+f (ls.getD i L0)=Cp f ls+f l
 |[],i,l,h=>by simp at h
 |x::r,0,l,_=>by simp[Cp];omega
 |x::r,i+1,l,h=>by
  have:=fB f r i l (by simpa using h)
  simp only[Cp,xbB,XY,Yf,xcn]at this ⊢;omega
def Mc(f:L->Nat){a b:List L}(e:a.length=b.length)(h:∀i,i<a.length->f (a.getD i L0)=f (b.getD i L0)):Cp f a=Cp f b:=by
 unfold Cp;congr 1;apply YT (by simp[e]);intro i c d;have:=h i (by simpa using c);simpa [WI,show i<a.length by simpa using c,show i<b.length by simpa using d] using this
def Lw(l:L):Prop:=1<=l.got/\l.got=l.free+l.hd+l.sh+l.sc+l.gv/\1<=l.id/\l.id<=14
def Lk(l l':L):Prop:=l'.id=l.id/\l'.got=l.got/\l'.gv=l.gv/\l'.free+l'.hd+l'.sh+l'.sc=l.free+l.hd+l.sh+l.sc
def Lk.refl(l:L):Lk l l:=⟨rfl,rfl,rfl,rfl⟩
variable {l:L}
def Lk.lw{l':L}(h:Lk l l')(a:Lw l):Lw l':=by
 obtain⟨b,c,d,e⟩:=h;obtain⟨f,g,i,j⟩:=a;unfold Lw;omega
structure Cn(ls:List L)(R:Nat):Prop where
 each:∀i,i<ls.length->Lw (ls.getD i L0)
 sum:Cp L.got ls=Cp L.gv ls+R
variable {ls ls':List L}
def Cn.keep(h:Cn ls R)(c:ls'.length=ls.length)(a:∀i,i<ls.length->Lk (ls.getD i L0) (ls'.getD i L0)):Cn ls' R:=by
 refine⟨λi b=>(a i (by omega)).lw (h.each i (by omega)),?_⟩;rw[Mc L.got c (λi b=>(a i (by omega)).2.1),Mc L.gv c (λi b=>(a i (by omega)).2.2.1)];exact h.sum
def Cn.app{n:Nat}(h:∀i,i<ls.length->Lw (ls.getD i L0))(d:Lw l)(b:l.gv=0)(f:Cp L.got ls+l.got=Cp L.gv ls+R):Cn (ls++[l]) R:=by
 refine⟨λi c=>?_,by rw[FR,FR,b];omega⟩;rw[xc,XX]at c;by_cases a:i<ls.length
 ·have e:(ls++[l]).getD i L0=ls.getD i L0:=by simp[WI,yj a]
  rw[e];exact h i a
 have:i=ls.length:=by omega
 subst this;have e:(ls++[l]).getD ls.length L0=l:=by simp[WI]
 rw[e];exact d
def wR(h:Lw l){n:Nat}(d:n<=l.free):Lw (zS l n):=by
 obtain⟨a,e,b,c⟩:=h;refine⟨a,?_,b,c⟩;show l.got=l.free-n+l.hd+l.sh+l.sc+(l.gv+n);omega
def LL(h:∀i,i<ls.length->Lw (ls.getD i L0)){j:Nat}(c:j<ls.length){l:L}(d:Lw l):∀i,i<(ls.set j l).length->Lw ((ls.set j l).getD i L0):=λi b=>by
 rw[xp]at b;by_cases a:i=j
 ·subst a;rw[ZJ c];exact d
 rw[zZ a];exact h i b
def Cn.split(h:Cn ls R){a b c:Nat}(g:1<=b/\b<=14)(k:1<=c):Cn (aE ls a b c) R:=by
 unfold aE;by_cases d:zO ls a b c=0
 ·rw[xh d];unfold zO at d;by_cases e:WO a ls<ls.length
  ·rw[xh e]at d;by_cases f:zx ls b=0
   ·rw[xh f]at d;by_cases l:(ls.getD (WO a ls) L0).free<c
    ·rw[xh l]at d;omega
    have m:=h.each _ e;refine Cn.app (n:=0) (LL h.each e (wR m (by omega))) ⟨k,by show c=c+0+0+0+0;omega,g.1,g.2⟩ rfl ?_
    have s1:=fB L.got ls (WO a ls) (zS (ls.getD (WO a ls) L0) c) e;have s2:=fB L.gv ls (WO a ls) (zS (ls.getD (WO a ls) L0) c) e;have p:=h.sum;have i:(zS (ls.getD (WO a ls) L0) c).got=(ls.getD (WO a ls) L0).got:=rfl;have j:(zS (ls.getD (WO a ls) L0) c).gv=(ls.getD (WO a ls) L0).gv+c:=rfl;rw[i]at s1;rw[j]at s2;show Cp L.got (ls.set (WO a ls) (zS (ls.getD (WO a ls) L0) c))+c=_;omega
   rw[xg f]at d;exact absurd d f
  rw[xg e]at d;omega
 rw[xg d];exact h
def rC{a b m:Nat}(h:zL ls a b m=0):WO a ls<ls.length/\WO b ls<ls.length/\WO a ls≠WO b ls/\zx ls m=0/\(zg ls a).free+(zg ls b).free≠0:=by
 unfold zL at h;by_cases d:WO a ls<ls.length/\WO b ls<ls.length
 ·rw[xh d]at h;by_cases f:WO a ls=WO b ls\/(zg ls a).gd≠(zg ls b).gd
  ·rw[xh f]at h;omega
  rw[xg f]at h;by_cases c:zx ls m=0
  ·rw[xh c]at h;by_cases g:(zg ls a).free+(zg ls b).free=0
   ·rw[xh g]at h;omega
   exact⟨d.1,d.2,λe=>f (Or.inl e),c,g⟩
  rw[xg c]at h;exact absurd h c
 rw[xg d]at h;omega
def Cn.merge(h:Cn ls R){a b m:Nat}(g:1<=m/\m<=14):Cn (ZG ls a b m) R:=by
 unfold ZG;by_cases e:zL ls a b m=0
 ·rw[xh e];obtain⟨d,f,r,s,t⟩:=rC e;have w1:=h.each _ d;have w2:=h.each _ f;have c:WO b ls<(ls.set (WO a ls) (zS (zg ls a) (zg ls a).free)).length:=by rw[xp];exact f
  refine Cn.app (n:=0) (LL (LL h.each d (wR w1 (xe _))) c (wR w2 (xe _))) ⟨by show 1<=(zg ls a).free+(zg ls b).free;omega,by show(zg ls a).free+(zg ls b).free=(zg ls a).free+(zg ls b).free+0+0+0+0;omega,g.1,g.2⟩ rfl ?_
  have s1:=fB L.got ls (WO a ls) (zS (zg ls a) (zg ls a).free) d;have s2:=fB L.gv ls (WO a ls) (zS (zg ls a) (zg ls a).free) d;have i:=fB L.got _ (WO b ls) (zS (zg ls b) (zg ls b).free) c;have j:=fB L.gv _ (WO b ls) (zS (zg ls b) (zg ls b).free) c;rw[zZ (YM r)]at i j;have u:=h.sum;have k:(zS (zg ls a) (zg ls a).free).got=(ls.getD (WO a ls) L0).got:=rfl;have l:(zS (zg ls a) (zg ls a).free).gv=(ls.getD (WO a ls) L0).gv+(zg ls a).free:=rfl;have p:(zS (zg ls b) (zg ls b).free).got=(ls.getD (WO b ls) L0).got:=rfl;have q:(zS (zg ls b) (zg ls b).free).gv=(ls.getD (WO b ls) L0).gv+(zg ls b).free:=rfl;rw[k]at s1;rw[l]at s2;rw[p]at i;rw[q]at j;show Cp L.got ((ls.set (WO a ls) (zS (zg ls a) (zg ls a).free)).set (WO b ls) (zS (zg ls b) (zg ls b).free))+((zg ls a).free+(zg ls b).free)=_;omega
 rw[xg e];exact h
def Cn.scrap(h:Cn ls R)(a c:Nat):Cn (Zx ls a c) R:=by
 unfold Zx;by_cases b:Zw ls a c=0
 ·rw[xh b];unfold Zw at b;by_cases e:WO a ls<ls.length
  ·rw[xh e]at b;by_cases f:(ls.getD (WO a ls) L0).free<c
   ·rw[xh f]at b;omega
   refine h.keep (xp ..) (λi g=>?_);by_cases d:i=WO a ls
   ·subst d;rw[ZJ e];refine⟨rfl,rfl,rfl,?_⟩;show(ls.getD (WO a ls) L0).free-c+(ls.getD (WO a ls) L0).hd+(ls.getD (WO a ls) L0).sh+((ls.getD (WO a ls) L0).sc+c)=_;omega
   rw[zZ d];exact Lk.refl _
  rw[xg e]at b;omega
 rw[xg b];exact h
def NO{q:List (Nat×Nat)}(g:(q.map Prod.fst).Nodup)(f:∀p∈q,p.1<ls.length)(a:∀p∈q,p.2<=(ls.getD p.1 L0).free):∀i,i<ls.length->Lk (ls.getD i L0) ((Zt ls q).getD i L0):=λi e=>by
 by_cases c:i∈q.map Prod.fst
 ·obtain⟨p,d,b⟩:=yc.1 c;obtain⟨j,n⟩:=p;simp only at b;subst b;rw[wZ q ls g d e];have:=a _ d;simp only at this;refine⟨rfl,rfl,rfl,?_⟩;show(ls.getD j L0).free-n+((ls.getD j L0).hd+n)+(ls.getD j L0).sh+(ls.getD j L0).sc=_;omega
 rw[dZ q ls c];exact Lk.refl _
def Fm{f:L->L}{i:Nat}(a:i<ls.length):(ls.map f).getD i L0=f (ls.getD i L0):=by simp[WI,a]
def PF{os:List O}(b:Good os ls)(g:L->Nat->L)(d:∀l n,(g l n).id=l.id/\(g l n).got=l.got/\(g l n).gv=l.gv/\(g l n).free+(g l n).hd+(g l n).sh+(g l n).sc=l.free+l.hd+l.sh+l.sc+n)(a:Nat):∀i,i<ls.length->Lk (ls.getD i L0) ((ls.map (dJ g os a)).getD i L0):=λi c=>by
 rw[Fm c];unfold dJ
 cases e:zn os a (ls.getD i L0).id with
 |none=>exact Lk.refl _
 |some n=>
  have f:n<=(ls.getD i L0).hd:=by rw[b.hd i c];exact fZ e
  obtain⟨h,j,k,m⟩:=d { ls.getD i L0 with hd:=(ls.getD i L0).hd-n } n;refine⟨h,j,k,?_⟩;rw[m];show(ls.getD i L0).free+((ls.getD i L0).hd-n)+(ls.getD i L0).sh+(ls.getD i L0).sc+n=_;omega
def Tb(s:Sv):Nat×List Nat->Nat
 |(2,[a,b,c,d])=>if zx s.ls a=0 then c else 0
 |_=>0
def Cn.step(h:Cn s.ls R)(g:Good s.os s.ls)(f:s.ls.length<=30)(k a b c d:Int):Cn (Io s (.ok (sp k a b c d))).ls (R+Tb s (sp k a b c d)):=by
 have m:=tP a (n:=12) (by omega);have p:=tP b (n:=12) (by omega);have q:=tP c (n:=12) (by omega);unfold sp;split
 ·show Cn (Zi s.rj s.td s.ls (.ok (1,[pk a 40]))).2.2 _;have e:(Zi s.rj s.td s.ls (.ok (1,[pk a 40]))).2.2=s.ls:=by simp only[Zi];split<;>rfl
  rw[e];exact h
 ·show Cn (if zx s.ls (1+pk a 12)=0 then s.ls++[Fr s.ls (1+pk a 12) (1+pk b 3) (1+pk c 400) (pk d 40)] else s.ls) (R+if zx s.ls (1+pk a 12)=0 then 1+pk c 400 else 0);by_cases i:zx s.ls (1+pk a 12)=0
  ·rw[xh i,xh i];refine Cn.app (n:=0) h.each ⟨by show 1<=1+_;omega,by show 1+pk c 400=1+pk c 400+0+0+0+0;omega,by show 1<=1+pk a 12;omega,by show 1+pk a 12<=14;omega⟩ rfl ?_
   have:=h.sum
   show Cp L.got s.ls+(1+pk c 400)=_;omega
  rw[xg i,xg i];exact h
 ·exact h.split ⟨by omega,by omega⟩ (by omega)
 ·exact h.merge ⟨by omega,by omega⟩
 ·show Cn (tS s.rj s.os s.td s.ls (1+pk a 4) (1+pk b 3) (1+pk c 400) (pk d 10) (pk (d.tdiv 16) 4)) R;unfold tS;split
  ·have j:=Z5 (rj:=s.rj) s.td (1+pk b 3) (1+pk c 400) (pk d 10) (pk (d.tdiv 16) 4) s.ls f;exact h.keep (bY _ _) (NO j.2.1 j.2.2.1 j.2.2.2.1)
  exact h
 ·exact h.keep (List.length_map ..) (PF g Zl (λl n=>⟨rfl,rfl,rfl,by show l.free+n+l.hd+l.sh+l.sc=_;omega⟩) _)
 ·exact h.keep (List.length_map ..) (PF g Zv (λl n=>⟨rfl,rfl,rfl,by show l.free+l.hd+(l.sh+n)+l.sc=_;omega⟩) _)
 ·exact h
 ·exact h
 ·exact h.scrap _ _
 ·show Cn (Zi s.rj s.td s.ls (.ok (11,[1+pk a 12]))).2.2 _;have e:(Zi s.rj s.td s.ls (.ok (11,[1+pk a 12]))).2.2=s.ls:=by simp only[Zi];split<;>rfl
  rw[e];exact h
 exact h
def Good.nodup{os:List O}(h:Good os ls):(ls.map L.id).Nodup:=by
 rw[Yu,Yn,Ye];intro i j a b c e;have:=h.ids i j a b (by simpa [WI,a,b] using e);omega
structure Gr(ls ls':List L):Prop where
 len:ls.length<=ls'.length
 old:∀i,i<ls.length->(ls'.getD i L0).id=(ls.getD i L0).id/\(ls'.getD i L0).gd=(ls.getD i L0).gd
 new:∀i,ls.length<=i->i<ls'.length->1<=(ls'.getD i L0).id/\(ls'.getD i L0).id<=12
def Gr.refl(ls:List L):Gr ls ls:=⟨xe _,λ_ _=>⟨rfl,rfl⟩,λi a b=>by omega⟩
def Gr.same(c:ls'.length=ls.length)(h:∀i,i<ls.length->(ls'.getD i L0).id=(ls.getD i L0).id/\(ls'.getD i L0).gd=(ls.getD i L0).gd):Gr ls ls':=⟨by omega,h,λi a b=>by omega⟩
def Gr.set(ls:List L)(j:Nat)(l:L)(h:j<ls.length->l.id=(ls.getD j L0).id/\l.gd=(ls.getD j L0).gd):Gr ls (ls.set j l) :=
 Gr.same (xp ..) (λi b=>by
  by_cases a:i=j
  ·subst a;rw[ZJ b];exact h b
  rw[zZ a];exact⟨rfl,rfl⟩)
def Gr.snoc(h:Gr ls ls'){l:L}(f:1<=l.id)(g:l.id<=12):Gr ls (ls'++[l]):=by
 have b:∀i,i<ls'.length->(ls'++[l]).getD i L0=ls'.getD i L0:=λi a=>by simp[WI,yj a]
 have c:(ls'++[l]).getD ls'.length L0=l:=by simp[WI]
 refine⟨by rw[xc];have:=h.len;omega,λi a=>?_,λi a d=>?_⟩
 ·rw[b i (xl a h.len)];exact h.old i a
 rw[xc,XX]at d;by_cases e:i<ls'.length
 ·rw[b i e];exact h.new i a e
 obtain rfl:i=ls'.length:=by omega
 rw[c];exact⟨f,g⟩
def Gr.trans2{a:List L}(h:Gr ls ls')(k:Gr ls' a)(e:ls'.length=ls.length):Gr ls a :=
 ⟨xi h.len k.len,λi b=>⟨(k.old i (by omega)).1.trans (h.old i b).1,(k.old i (by omega)).2.trans (h.old i b).2⟩,λi d c=>k.new i (by omega) c⟩
def Di(ls:List L)(l:List (Nat×Nat)):∀i,((Zt ls l).getD i L0).gd=(ls.getD i L0).gd:=by
 induction l generalizing ls with
 |nil=>intro i;rfl
 |cons p r ih=>
  intro i;simp only[Zt];rw[ih];by_cases h:i=p.1
  ·subst h;by_cases a:p.1<ls.length
   ·rw[ZJ a];rfl
   simp[xah (show ls.length<=p.1 by omega)]
  rw[zZ h]
def PN(g:L->Nat->L)(b:∀l n,(g l n).id=l.id/\(g l n).gd=l.gd)(os:List O)(a:Nat)(ls:List L):Gr ls (ls.map (dJ g os a)) :=
 Gr.same (List.length_map ..) (λi c=>by
  rw[Fm c];unfold dJ;split
  ·exact⟨(b _ _).1,(b _ _).2⟩
  exact⟨rfl,rfl⟩)
def QZ(s:Sv)(k a b c d:Int):Gr s.ls (Io s (.ok (sp k a b c d))).ls:=by
 have h:=tP a (n:=12) (by omega);have j:=tP b (n:=12) (by omega);have l:=tP c (n:=12) (by omega);unfold sp;split
 ·show Gr s.ls (Zi s.rj s.td s.ls (.ok (1,[pk a 40]))).2.2;have e:(Zi s.rj s.td s.ls (.ok (1,[pk a 40]))).2.2=s.ls:=by simp only[Zi];split<;>rfl
  rw[e];exact Gr.refl _
 ·show Gr s.ls (if zx s.ls (1+pk a 12)=0 then s.ls++[Fr s.ls (1+pk a 12) (1+pk b 3) (1+pk c 400) (pk d 40)] else s.ls);split
  ·exact(Gr.refl _).snoc (by show 1<=1+pk a 12;omega) (by show 1+pk a 12<=12;omega)
  exact Gr.refl _
 ·show Gr s.ls (aE s.ls (1+pk a 12) (1+pk b 12) (1+pk c 400));unfold aE;split
  ·refine Gr.snoc ?_ ?_ ?_
   ·exact Gr.set _ _ _ (λ_=>⟨rfl,rfl⟩)
   ·show 1<=1+pk b 12;omega
   show 1+pk b 12<=12;omega
  exact Gr.refl _
 ·show Gr s.ls (ZG s.ls (1+pk a 12) (1+pk b 12) (1+pk c 12));unfold ZG;split
  ·rename_i f;obtain⟨m,p,g,_,_⟩:=rC f;refine Gr.snoc ?_ ?_ ?_
   ·refine Gr.trans2 (ls':=s.ls.set (WO (1+pk a 12) s.ls) (zS (zg s.ls (1+pk a 12)) (zg s.ls (1+pk a 12)).free)) ?_ ?_ (xp ..)
    ·exact Gr.set _ _ _ (λ_=>⟨rfl,rfl⟩)
    refine Gr.set _ _ _ (λ_=>?_);rw[zZ (YM g)];exact⟨rfl,rfl⟩
   ·show 1<=1+pk c 12;omega
   show 1+pk c 12<=12;omega
  exact Gr.refl _
 ·show Gr s.ls (tS s.rj s.os s.td s.ls (1+pk a 4) (1+pk b 3) (1+pk c 400) (pk d 10) (pk (d.tdiv 16) 4));unfold tS;split
  ·exact Gr.same (bY _ _) (λi _=>⟨bP _ _ i,Di _ _ i⟩)
  exact Gr.refl _
 ·exact PN Zl (λ_ _=>⟨rfl,rfl⟩) _ _ _
 ·exact PN Zv (λ_ _=>⟨rfl,rfl⟩) _ _ _
 ·exact Gr.refl _
 ·exact Gr.refl _
 ·show Gr s.ls (Zx s.ls (1+pk a 12) (1+pk c 400));unfold Zx;split
  ·exact Gr.set _ _ _ (λ_=>⟨rfl,rfl⟩)
  exact Gr.refl _
 ·show Gr s.ls (Zi s.rj s.td s.ls (.ok (11,[1+pk a 12]))).2.2;have e:(Zi s.rj s.td s.ls (.ok (11,[1+pk a 12]))).2.2=s.ls:=by simp only[Zi];split<;>rfl
  rw[e];exact Gr.refl _
 exact Gr.refl _
def RR(s:Sv)(h:∀o∈s.os,o.id<=4)(k a b c d:Int):∀o∈(Io s (.ok (sp k a b c d))).os,o.id<=4:=by
 have g:=tP a (n:=4) (by omega);have f:∀n:Nat,∀o∈s.os.filter (λo=>o.id != n),o.id<=4:=λn o e=>h o (YC.1 e).1
 unfold sp;split
 ·exact h
 ·exact h
 ·exact h
 ·exact h
 ·show ∀o∈Ab s.rj s.os s.td s.ls (1+pk a 4) (1+pk b 3) (1+pk c 400) (pk d 10) (pk (d.tdiv 16) 4),o.id<=4
  unfold Ab;split
  ·intro o e;rcases xx.1 e with e|e
   ·exact h o e
   simp at e;subst e;show 1+pk a 4<=4;omega
  exact h
 ·exact f _
 ·exact f _
 ·exact h
 ·exact h
 ·exact h
 ·exact h
 exact h
structure Sc(s:Sv):Prop where
 lots:∀i,i<s.ls.length->(1<=(s.ls.getD i L0).id/\(s.ls.getD i L0).id<=12)\/(s.ls.getD i L0).gd=9
 os:∀o∈s.os,o.id<=4
def Sc.step(h:Sc s)(k a b c d:Int):Sc (Io s (.ok (sp k a b c d))):=by
 refine⟨λi l=>?_,RR s h.os k a b c d⟩;have e:=QZ s k a b c d;by_cases f:i<s.ls.length
 ·obtain⟨g,j⟩:=e.old i f;rw[g,j];exact h.lots i f
 exact Or.inl (e.new i (by omega) l)
def Cb(rj:List (Nat×Nat))(td:Nat)(os:List O)(ls:List L)(l:List UInt8):(zK rj td os ls (Pl.cmd l)).1≠[]:=by
 have g:=dN l
 cases h:ZT l with
 |none=>rw[h]at g;rw[g];simp[zK,ZQ,aM,Zi]
 |some p=>
  obtain⟨c,m⟩:=p;rw[h]at g;obtain⟨j,k,e,_⟩:=bO h
  cases i:Pl.mays (Pl.kindsL c) m with
  |false=>simp only[i,Yg,xam]at g;rw[g];simp[zK,ZQ,aM,Zi]
  |true=>
   simp only[i,YX]at g;rw[g];rcases(show c=1\/c=2\/c=3\/c=4\/c=5\/c=6\/c=7\/c=8\/c=9\/c=10\/c=11\/c=12 from by omega) with rfl|rfl|rfl|rfl|rfl|rfl|rfl|rfl|rfl|rfl|rfl|rfl
   ·obtain⟨a,rfl⟩:=Fi e;simp only[zK,ZQ,aM,Zi];split<;>simp
   ·obtain⟨a,b,c,d,rfl⟩:=Uz e;simp[zK,ZQ,aM,Zi]
   ·obtain⟨a,b,c,rfl⟩:=PZ e;simp[zK,ZQ,aM,Zi]
   ·obtain⟨a,b,c,rfl⟩:=PZ e;simp[zK,ZQ,aM,Zi]
   ·obtain⟨a,b,c,d,f,rfl⟩:=UR e;simp only[zK,ZQ,Iz];split<;>simp
   ·obtain⟨a,rfl⟩:=Fi e;simp[zK,ZQ,aM,Zi]
   ·obtain⟨a,rfl⟩:=Fi e;simp[zK,ZQ,aM,Zi]
   ·obtain⟨a,b,rfl⟩:=Fk e;simp only[zK,cF];split<;>simp
   ·obtain⟨a,b,rfl⟩:=Fk e;simp[zK,ZQ,aM,Zi]
   ·obtain⟨a,b,rfl⟩:=Fk e;simp[zK,ZQ,aM,Zi]
   ·obtain⟨a,rfl⟩:=Fi e;simp only[zK,ZQ,aM,Zi];split<;>simp
   obtain⟨a,b,rfl⟩:=Fk e;simp[zK,ZQ,aM,Zi]
def aT(s:Sv)(t:ByteArray):Sv:=⟨(zK s.rj s.td s.os s.ls (Pl.cmd t.data.toList)).2.1,(zK s.rj s.td s.os s.ls (Pl.cmd t.data.toList)).2.2.1,(zK s.rj s.td s.os s.ls (Pl.cmd t.data.toList)).2.2.2.1,(zK s.rj s.td s.os s.ls (Pl.cmd t.data.toList)).2.2.2.2,WV s.lg t (zK s.rj s.td s.os s.ls (Pl.cmd t.data.toList)).1⟩
def Pc(s:Sv)(t:ByteArray)(c:t.size<=4194304):(aT s t).lg.length<=s.lg.length+4194352:=by
 have b:t.data.toList.length=t.size:=by rw[Yy];rfl
 have a:=wP t.data.toList (by omega);show(WV _ _ _).length<=_;unfold WV;split
 ·rw[xc];omega
 omega
