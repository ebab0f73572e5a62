import Derived.Test.YtmccnmgaoppogabGreatuYM
namespace Go.Proofs.YtmccnmgaoppogabGreat
open Pu
set_option linter.all false
open Go.Proofs.Tryz Tryz
set_option maxRecDepth 100000
set_option maxHeartbeats 8000000
open Go.RowKit
def qZ:lZ:=⟨[0],[⟨1,0,0⟩],[⟨2,0,0,0⟩,⟨1,0,0,0⟩,⟨5,0,0,0⟩]⟩
theorem yG:gu qZ:=by
 have d:∀i,i<1->i=0:=fun i h=>by omega
 have c:∀i,i<3->i=0\/i=1\/i=2:=fun i h=>by omega
 refine⟨⟨⟨d_,d_⟩,fun i a=>?_⟩,⟨⟨d_,d_⟩,fun i a=>?_⟩,⟨⟨d_,d_⟩,fun i a=>?_,.inr rfl⟩,fun i=>2-i,fun i a j b=>?_⟩
 .have:=d i a;subst this;exact⟨Int.le_refl _,d_⟩
 .have:=d i a;subst this;exact⟨.inr rfl,⟨d_,d_⟩,⟨d_,d_⟩,.inr (.inr rfl)⟩
 .rcases c i a with h | h | h
  .subst h;exact .inr (.inl ⟨.inl rfl,rfl,rfl,rfl⟩)
  .subst h;exact .inl ⟨rfl,Int.le_refl _,d_,rfl,rfl⟩
  .subst h;exact .inr (.inl ⟨.inr rfl,rfl,rfl,rfl⟩)
 .rcases c i a with h | h | h
  .subst h;simp[Pu.succ,Pu.fst,Pu.snd,qZ]at b
  .subst h;simp[Pu.succ,Pu.fst,Pu.snd,qZ]at b;subst b;show 2-2<2-1;omega
  .subst h;simp[Pu.succ,Pu.fst,Pu.snd,qZ]at b
theorem Qq:rX (strOfNums (Pu.rT qZ)) 1 0:=by have:=Gb yG;exact⟨⟨this.1,by rw[this.2];exact yG⟩,⟨d_,d_⟩,⟨d_,d_⟩⟩
theorem MG(w:W_)(b d f:Nat)(a c e:List V_)(o:Obj) :
  dh ((((w.alloc (c_ a.toArray b)).alloc (c_ c.toArray d)).alloc (c_ e.toArray f)).alloc o) w.heap.size b a/\dh ((((w.alloc (c_ a.toArray b)).alloc (c_ c.toArray d)).alloc (c_ e.toArray f)).alloc o) (w.heap.size+1) d c/\dh ((((w.alloc (c_ a.toArray b)).alloc (c_ c.toArray d)).alloc (c_ e.toArray f)).alloc o) (w.heap.size+1+1) f e:=by
 have i:=hn_ w (c_ a.toArray b);have g:=hn_ (w.alloc (c_ a.toArray b)) (c_ c.toArray d);rw[wa_]at g;have h:=hn_ ((w.alloc (c_ a.toArray b)).alloc (c_ c.toArray d)) (c_ e.toArray f);rw[wa_,wa_]at h;exact⟨cO (cO (cO i _) _) _,cO (cO g _) _,cO h _⟩
def S0(b a:Nat):BO:=⟨b,a,[],[],fun _=>[],0,n_,n_,fun _=>n_,fun _=>n_⟩
theorem WI.nil{d c:Nat}{W:W_}(h:dh W d 37 [n_,n_,p_ c])(f:dh W c 33 (drC 0 (fun _=>n_) (fun _=>n_)))(l:c<=d):WI 0 (S0 d c) W:=
 ⟨⟨h,iR _ _ _ _,iR _ _ _ _,fun k x a=>(by cases a),fun x a=>(by cases a),dF,fun x a=>(by cases a)⟩,f,fun _=>iR _ _ _ _,fun _=>iR _ _ _ _,fun _ b e=>(by cases e),fun _ _ _ g k=>(by cases k),fun i j x y a=>(by cases a),l,fun x a=>(by cases a)⟩
def aiB(b a:Nat)(w:W_)(e:Ending)(w':W_):Prop:=e=.returned (.bool true)/\Below a w w'/\WI 0 (S0 b a) w'
theorem Rj(d a:Nat)(w:W_)(h:WI 0 (S0 d a) w) :
  Calls prog 5 #[p_ d,I_ 1] w (aiB d a w):=by
 have t:=bL h;have F:a<w.heap.size:=bP h.d;have n:a<=d:=h.up.1;clear h;go_in;have b:=bL (MG w 3 48 50 [I_ 0] [I_ 1,I_ 0,I_ 0] [I_ 2,I_ 0,I_ 0,I_ 0,I_ 1,I_ 0,I_ 0,I_ 0,I_ 5,I_ 0,I_ 0,I_ 0] (c_ #[s_ w.heap.size 1 1,s_ (w.heap.size+1) 1 1,s_ (w.heap.size+1+1) 3 3] 42));have p:Hid (B_ w ((((w.alloc (c_ #[I_ 0] 3)).alloc (c_ #[I_ 1,I_ 0,I_ 0] 48)).alloc (c_ #[I_ 2,I_ 0,I_ 0,I_ 0,I_ 1,I_ 0,I_ 0,I_ 0,I_ 5,I_ 0,I_ 0,I_ 0] 50)).alloc (c_ #[s_ w.heap.size 1 1,s_ (w.heap.size+1) 1 1,s_ (w.heap.size+1+1) 3 3] 42))):=((((Br_ w.heap.size w).alloc dF _).alloc i_ _).alloc (by simp;omega) _).alloc (by simp;omega) _;go_wp2_with fail;generalize ((((w.alloc (c_ #[I_ 0] 3)).alloc (c_ #[I_ 1,I_ 0,I_ 0] 48)).alloc (c_ #[I_ 2,I_ 0,I_ 0,I_ 0,I_ 1,I_ 0,I_ 0,I_ 0,I_ 5,I_ 0,I_ 0,I_ 0] 50)).alloc (c_ #[s_ w.heap.size 1 1,s_ (w.heap.size+1) 1 1,s_ (w.heap.size+1+1) 3 3] 42))=z at *;have e:=bL (Dv (s_ w.heap.size 1 1) (s_ (w.heap.size+1) 1 1) (s_ (w.heap.size+1+1) 3 3) qZ z
  ⟨_,_,rfl,dF,d_,fun i c=>⟨w.heap.size,0,rfl,bP b.o.1,by
   obtain rfl:i=0:=by simp[qZ]at c;omega
   exact bN (j:=0) b.o.1 rfl⟩⟩
  ⟨_,_,rfl,dF,d_,fun i c=>⟨w.heap.size+1,0,rfl,bP b.o.2.1,by
   obtain rfl:i=0:=by simp[qZ]at c;omega
   exact⟨bN (j:=0) b.o.2.1 rfl,bN (j:=1) b.o.2.1 rfl,bN (j:=2) b.o.2.1 rfl⟩⟩⟩
  ⟨_,_,rfl,dF,d_,fun i c=>⟨w.heap.size+1+1,0,rfl,bP b.o.2.2,by
   have k:=b.o.2.2;have f:i=0\/i=1\/i=2:=by simp[qZ]at c;omega
   rcases f with rfl | rfl | rfl
   .exact⟨bN (j:=0) k rfl,bN (j:=1) k rfl,bN (j:=2) k rfl,bN (j:=3) k rfl⟩
   .exact⟨bN (j:=4) k rfl,bN (j:=5) k rfl,bN (j:=6) k rfl,bN (j:=7) k rfl⟩
   .exact⟨bN (j:=8) k rfl,bN (j:=9) k rfl,bN (j:=10) k rfl,bN (j:=11) k rfl⟩⟩⟩)
 refine e.o.mono ?_;clear e b;rintro e g ⟨s,c,rfl,f,l⟩;rcases l with ⟨_,rfl,rfl⟩ | ⟨b,_⟩;rotate_left
 .exact absurd yG b
 have q:=bL (ja p.o f);clear f p;have u:=bL (t.o.below q.o);have i:Hid (C_ 9 #[p_ d,.agg #[.string (strOfNums (Pu.rT qZ)),.pointer none],I_ 1,I_ 0] g (afw 0 (S0 d a) (strOfNums (Pu.rT qZ)) 1 0 g)):=Jg 0 (S0 d a) ⟨strOfNums (Pu.rT qZ),[],none⟩ 1 0 g u.o (.inr ⟨rfl,by show ByteArray.size _<=_;decide⟩) ⟨d_,d_⟩ ⟨d_,d_⟩ (by show 0<=1099511627776;decide);generalize f:strOfNums (Pu.rT qZ)=I at *;have y:=bL f;clear f;go_wp2_with fail;refine i.o.mono ?_;clear i;rintro e i ⟨rfl,p,⟨b,_⟩ | ⟨_,x,C,k⟩⟩
 .exact absurd (by rw[<-y.o];exact Qq) b
 have sc:i.ownsRow a 63 2 C 1 (xw [x]):=k.q.sc;obtain⟨A,B,rfl,-,-⟩:=lG sc;have f:Hid (dh i d 37 [n_,.slice A 1 B,p_ a]):=k.q.w;have r:Hid (dh i a 33 (drC 0 (fun _=>n_) (fun _=>n_))):=k.d;have v:Hid (Below a g i):=p.lo;have E:=bQ 1 f.o rfl;have D:=bQ 0 f.o rfl;have H:=bM f.o 1;have G:=bM f.o 0;clear k p sc;go_wp2;go_ret;have p:=cK f.o 1 n_;have k:=bU r.o (gD r.o f.o d_) 1 n_;exact⟨rfl,(q.o.mono o_).trans ((v.o.setCell n _).setCell n _),.nil (cK p 0 _) (bU k (gD k p d_) 0 _) n⟩
theorem Kh{l:List Kz}{i:Nat}{x:Kz}(h:l[i]?=some x):yJ (l.take (i+1))=yJ (l.take i)+x.s.size:=by unfold yJ;rw[List.take_add_one,h];simp
theorem afc(l:List Kz)(i:Nat):yJ (l.take i)<=yJ l:=by
 unfold yJ;have:l.map (fun x=>x.s.size)=(l.take i).map (fun x=>x.s.size)++(l.drop i).map (fun x=>x.s.size):=by rw[<-List.map_append,List.take_append_drop]
 rw[this,List.sum_append];omega
def PI(l:List Kz)(b a i:Nat)(W:W_):Prop:=
 ∃N S,WI N S W/\(S.gw=b/\S.gd=a)/\N<=yJ (l.take i)/\S.kU.length<=i/\S.zs.length<=i/\(∀j,(S.ks j).length<=i*2)/\(0<=S.n/\S.n<=i*6)/\(∀j,∀x∈S.ks j,x.cap<=9223372036854775807)/\∀j,j≠3->(S.ks j).length=(S.ks 0).length
theorem PI.on{l:List Kz}{b a i:Nat}{W:W_}(h:PI l b a i W)(g:yJ (l.take i)<=yJ (l.take (i+1))):PI l b a (i+1) W:=by obtain⟨N,S,c,aW,k,n,p,d,e,f⟩:=h;exact⟨N,S,c,aW,o_,o_,o_,fun j=>by have:=d j;omega,⟨e.1,o_⟩,f⟩
theorem PI.looks{l:List Kz}{b a i:Nat}{W:W_}(h:PI l b a i W)(g:i<=1048576):W.cell? (a_ b 2)=some (p_ a)/\C_ 7 #[p_ a] W (Al (.bool true) W):=by obtain⟨N,S,c,⟨rfl,rfl⟩,k,n,p,d,q,e,f⟩:=h;exact⟨bN (j:=2) c.q.w rfl,XG N S W c e (fun j=>by have:=d j;omega) f⟩
theorem PI.below{l:List Kz}{c b i:Nat}{W a:W_}(h:PI l c b i W)(e:B_ W a):PI l c b i a:=by obtain⟨N,S,d,q⟩:=h;exact⟨N,S,d.below e,q⟩
theorem PI.step{l:List Kz}{c b i:Nat}{w W:W_}{x:Kz}(h:PI l c b i W)(k:l[i]?=some x)(L:yJ l<=1048576)(K:l.length<=1048576)(H:zo x.s)(ok:UT w x)(f:B_ w W)(J:1<=x.kind/\x.kind<=9) :
  C_ 6 #[p_ c,.agg #[I_ x.kind,I_ x.on,I_ x.a,I_ x.b,.string x.s,.slice x.ae x.ne x.ce,.slice x.ar x.nr x.cr,.slice x.ac x.nc x.cc]] W (fun e a=>e=.returned (.bool true)/\Below b W a/\PI l c b (i+1) a):=by
 obtain⟨N,S,v,⟨rfl,rfl⟩,R,T,U,n,B,C,D⟩:=h;obtain⟨⟨G,E,F⟩,p,r,s,t,u⟩:=ok;have V:=Kh k;have X:=afc l (i+1);have I:=(ge_.1 k).1;refine (Y9 N S x.kind x.on x.a x.b x.s x.ae x.ar x.ac x.ne x.ce x.nr x.cr x.nc x.cc W v o_ ⟨B.1,o_⟩ (fun j=>by have:=n j;omega) o_ o_ H E F G o_ ⟨p,r.below f,s.below f,t.below f,u⟩).mono ?_;rintro e a ⟨rfl,g,q,nx,d⟩;have A:=nx.n;have O:=nx.im;have Q:=nx.zs;exact⟨rfl,g,_,q,d,nx.w,o_,o_,o_,fun j=>by have:=n j;have:=nx.ks j;omega,⟨A.1,o_⟩,fun j y z=>(nx.cap j y z).elim (C j y) id,nx.le D⟩
theorem Ym(v:V_)(l:List Kz)(w:W_)(O:∀s,zo s)(hS:agw w v l)(D:yJ l<=1048576)(hl:l.length<=1048576) :
  Calls prog 4 #[v,I_ 1,I_ 8,I_ 1] w (Al (.bool true) w):=by
 obtain⟨ao,Z,rfl,l1,l2,a⟩:=hS;have U:=bL a;have b:Hid (WI 0 (S0 (w.heap.size+1) w.heap.size) ((w.alloc (c_ #[I_ 0,n_,n_,n_,n_,n_,n_,n_,n_] 33)).alloc (c_ #[n_,n_,p_ w.heap.size] 37))):=by have d:=hn_ w (c_ #[I_ 0,n_,n_,n_,n_,n_,n_,n_,n_] 33);have c:=hn_ (w.alloc (c_ #[I_ 0,n_,n_,n_,n_,n_,n_,n_,n_] 33)) (c_ #[n_,n_,p_ w.heap.size] 37);rw[wa_]at c;exact WI.nil c (cO (t:=33) (xs:=drC 0 (fun _=>n_) (fun _=>n_)) d _) o_
 have d:Hid (B_ w ((w.alloc (c_ #[I_ 0,n_,n_,n_,n_,n_,n_,n_,n_] 33)).alloc (c_ #[n_,n_,p_ w.heap.size] 37))):=((Br_ w.heap.size w).alloc dF _).alloc i_ _;have S:=bL O;have R:=bL D;clear a O D;go_in;go_wp2_with fail;generalize ((w.alloc (c_ #[I_ 0,n_,n_,n_,n_,n_,n_,n_,n_] 33)).alloc (c_ #[n_,n_,p_ w.heap.size] 37))=W at *;refine (Rj (w.heap.size+1) w.heap.size W b.o).mono ?_;clear b;rintro e X ⟨rfl,c,b⟩;have f:=bL (d.o.trans c);have g:Hid (PI l (w.heap.size+1) w.heap.size 0 X):=⟨0,_,b,⟨rfl,rfl⟩,zl_ _,dF,dF,fun _=>dF,⟨Int.le_refl _,Int.le_refl _⟩,fun j x a=>(by cases a),fun _ _=>rfl⟩;clear c b d;go_wp2_with fail;go_loopg [11] l.length (fun gk b a=>∃i:Nat,i<=l.length/\b=I_ i/\gk=l.length-i/\B_ w a/\PI l (w.heap.size+1) w.heap.size i a);exact⟨0,zl_ _,rfl,rfl,f.o,g.o⟩;clear f g;obtain⟨i,hi,rfl,rfl,d,k⟩:=hrel;have r:=bL d;have T:=bL k;have sz:=d.size;by_cases A:i<l.length
 .have z:=oL i l.length;have aS:=jJ i;have i1:(i:Int)<l.length:=o_;have wi:=kZ i;obtain⟨x,a⟩:=rG l i A;obtain⟨ok,b,g,rfl,y,c⟩:=U.o i x a;have ge:∀j u,x.afg[j]?=some u->wr.cell? (a_ b (g+i*8+j))=some u:=fun j u h=>(d.cell (p:=(a_ b (g+i*8+j))) y).trans (c j u h);have E:wr.cell? (a_ b (g+i*8))=some (I_ x.kind):=ge 0 _ rfl;have F:=ge 1 _ rfl;have G:=ge 2 _ rfl;have H:=ge 3 _ rfl;have I:=ge 4 _ rfl;have J:=ge 5 _ rfl;have K:=ge 6 _ rfl;have L:=ge 7 _ rfl;have j:=bL (fun u=>k.step a R.o hl (S.o x.s) ok d u);have q:=bL (k.on (by rw[Kh a];omega));clear ge c d k a ok T;obtain⟨c,on,a,b',s,ae,ne,ce,ar,nr,cr,ac,nc,cc⟩:=x;simp only at E F G H I J K L j;by_cases u:1<=c/\c<=9
  .replace j:=bL (j.o u);clear q sz;by_cases h9:c=9;subst h9;rotate_left;focus
    have C:decide (c<1)=false:=dn_ o_;have d8:decide (8<c)=false:=dn_ o_
   all_goals
    go_wp2_with fail;refine j.o.mono ?_;clear j E F G H I J K L;rintro e w2 ⟨rfl,n,f⟩;obtain⟨Y,N⟩:=f.looks o_;have B:=bL N;have Q:=bL (r.o.trans n);have V:=bL f;clear n f N;go_wp2_with fail;refine B.o.mono ?_;clear B Y;rintro e B ⟨rfl,f⟩;have n:=bL (ja Q.o f);have q:=bL (V.o.below f);clear f;go_wp2;go_roundg (l.length-(i+1));exact⟨i+1,o_,by go_num,rfl,n.o,q.o⟩;omega
  .have n1:(c != 1)=true:=by simp;omega
   have B:(c != 9)=true:=by simp;omega
   by_cases f:c<1;have C:decide (c<1)=true:=dt_ f;rotate_left;focus
    have C:decide (c<1)=false:=dn_ f;have n:decide (8<c)=true:=dt_ o_
   all_goals
    go_wp2;go_roundg (l.length-(i+1));exact⟨i+1,o_,by go_num,rfl,r.o,q.o⟩;omega
 .have z:=nI i l.length;clear d k;go_wp2;go_ret;exact⟨rfl,r.o⟩
theorem adS(v:V_)(l:List Kz)(w:W_)(i:∀s,zo s)(d:agw w v l)(a:yJ l<=1048576)(g:l.length<=1048576) :
  Calls prog 3 #[v] w (Al (.bool true) w):=by
 have c:=bL (Ym v l w i d a g);obtain⟨j,f,rfl,k,n,b⟩:=d;clear b;go_in;go_wp2_with fail;refine c.o.mono ?_;clear c;rintro e c ⟨rfl,a⟩;have b:=bL a;clear a;go_wp2;go_ret;exact⟨rfl,b.o⟩
end Go.Proofs.YtmccnmgaoppogabGreat
