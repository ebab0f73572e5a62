import Derived.Test.YtmccnmgaoppogabGreatuKbt
namespace Go.Proofs.YtmccnmgaoppogabGreat
open Pu
set_option linter.all false
open Go.Proofs.Tryz Tryz
set_option maxRecDepth 100000
set_option maxHeartbeats 8000000
open Go.RowKit
variable {L g:Nat} {E E1:bI} {C:bJ} {w w':W_} {e:Ending} {xs ys:List V_}
def Live(E:bI)(C:bJ):Prop:=C.err=0/\E.ended=false
def UI(L g:Nat)(E E1:bI)(C:bJ)(w:W_)(e:Ending)(w':W_):Prop:=
 ∃D Tk b a code,e=.returned (.tuple #[b,I_ code])/\w'.ownsRow w.heap.size 67 5 b Tk.length (fw Tk)/\BM (oW L g) w' g a D/\w.grownBy w' (some g)/\a.s.size<=E1.s.size/\
  (Live E C->a=E1/\rW E1 C D/\D.dU=C.dU++Tk/\code=D.err)/\(¬Live E C->D=C/\Tk=[]/\code=shut true C.err/\(C.err=0->a=E))
def UK(L g:Nat)(E E1:bI)(C:bJ)(w:W_)(e:Ending)(w':W_):Prop:=
 ∃D Tk b a code,e=.returned (.tuple #[b,I_ code])/\w'.ownsRow w.heap.size 67 5 b Tk.length (fw Tk)/\Ds (oW L g) w' g a D/\w.grownBy w' (some g)/\a.s.size<=E1.s.size/\
  (Live E C->a=E1/\rW E1 (rP E1.p) D/\Tk=D.dU.drop C.dU.length/\code=D.err)/\(¬Live E C->D=C/\Tk=[]/\code=shut true C.err/\(C.err=0->a=E))
theorem aaL(d:E.ended=false)(h:rU (oW L g) g E1 C w e w'):UI L g E E1 C w e w':=by
 obtain⟨D,Tk,n,b,c,rfl,l,f,j⟩:=h;refine⟨D,Tk,n,E1,D.err,rfl,l,f,j,dF,fun _=>⟨rfl,b,c,rfl⟩,fun k=>?_⟩;have a:C.err≠0:=fun h=>k ⟨h,d⟩;have i:C=D:=b.1.done (AP a);subst i;refine⟨rfl,?_,?_,fun h=>absurd h a⟩
 .have:=congrArg List.length c;rw[la_]at this;exact List.eq_nil_of_length_eq_zero o_
 .unfold shut;rw[if_pos a]
theorem VK(a:E.ended=true)(d:E.s.size<=E1.s.size)(h:BM (oW L g) w g E C)(c:Ak (shut true C.err) w e w'):UI L g E E1 C w e w':=by obtain⟨rfl,rfl⟩:=c;refine⟨C,[],_,E,_,rfl,iR _ _ _ _,h,World.grownBy.refl _ _,d,fun b=>?_,fun _=>⟨rfl,rfl,rfl,fun _=>rfl⟩⟩;have:=b.2;rw[a]at this;cases this
theorem aaD(L g:Nat)(E:bI)(C:bJ)(a:Y_)(w:W_)(h:BM (oW L g) w g E C)(b:E.s.size+a.size<=1099511627776) :
  C_ 26 #[p_ g,.string a] w (UI L g E (E.on a false) C w):=by
 cases hE:E.ended
 .exact (WS (oW L g) g E C a w h hE b).mono fun _ _ k=>aaL hE k
 .exact (WT g E C a w h.sc hE).mono fun _ _ k=>VK hE (by rw[nD];omega) h k
theorem Rw(L g:Nat)(E:bI)(C:bJ)(w:W_)(h:BM (oW L g) w g E C)(a:E.s.size<=1099511627776) :
  C_ 28 #[p_ g] w (UI L g E (E.on fJ true) C w):=by
 cases hE:E.ended
 .exact (Oo (oW L g) g E C w h hE a).mono fun _ _ k=>aaL hE k
 .exact (Oq g E C w h.sc hE).mono fun _ _ k=>VK hE (by rw[nD];omega) h k
theorem aaM(c:Live E C)(h:Aj (oW L g) g E1 C w e w'):UK L g E E1 C w e w':=by obtain⟨D,i,f,rfl,d,a,b⟩:=h;exact⟨D,D.dU.drop C.dU.length,i,E1,D.err,rfl,by rw[List.length_drop];exact d,a,b,dF,fun _=>⟨rfl,f,rfl,rfl⟩,fun k=>absurd c k⟩
theorem VM(c:¬Live E C)(f:E.s.size<=E1.s.size)(h:Ds (oW L g) w g E C)(d:E5 (shut true C.err) w e w'):UK L g E E1 C w e w':=by obtain⟨rfl,a⟩:=d;exact⟨C,[],_,E,_,rfl,iR _ _ _ _,h.below a,⟨a.os,a.tape,a.output,a.size,fun k b _=>a.block k b⟩,f,fun k=>absurd k c,fun _=>⟨rfl,rfl,rfl,fun _=>rfl⟩⟩
theorem PH(h:¬Live E C):C.err≠0\/E.ended=true:=by
 by_cases a:C.err=0
 .right;cases hE:E.ended
  .exact absurd ⟨a,hE⟩ h
  .rfl
 .exact .inl a
theorem ad4(L g:Nat)(E:bI)(C:bJ)(a:Y_)(w:W_)(h:Ds (oW L g) w g E C)(c:E.s.size+a.size<=1099511627776) :
  C_ 27 #[p_ g,.string a] w (UK L g E (E.on a false) C w):=by
 by_cases b:Live E C
 .exact (P6 (oW L g) g E C a w h b.1 b.2 c).mono fun _ _ k=>aaM b k
 .exact (Mh (oW L g) g E C a w h (PH b)).mono fun _ _ k=>VM b (by rw[nD];omega) h k
theorem WG(L g:Nat)(E:bI)(C:bJ)(w:W_)(h:Ds (oW L g) w g E C)(b:E.s.size<=1099511627776) :
  C_ 29 #[p_ g] w (UK L g E (E.on fJ true) C w):=by
 by_cases a:Live E C
 .exact (IP (oW L g) g E C w h a.1 a.2 b).mono fun _ _ k=>aaM a k
 .exact (G5 (oW L g) g E C w h (PH a)).mono fun _ _ k=>VM a (by rw[nD];omega) h k
theorem Wp{f:Nat->Int}{E':bI}{D c:bJ}{Tk a:List bK}{t:Y_}{b:Bool}{p l:bI}{code n:Int}(A:Pu.Good E' f)(H:rW E' (rP E'.p) C)(z:C.err=0->E=E')
  (F:Live E C->p=E.on t b/\rW (E.on t b) C D/\D.dU=C.dU++Tk/\code=D.err) (G:¬Live E C->D=C/\Tk=[]/\code=shut true C.err/\(C.err=0->p=E))
  (I:Live E' C->l=E'.on t b/\rW (E'.on t b) (rP (E'.on t b).p) c/\a=c.dU.drop C.dU.length/\n=c.err) (J:¬Live E' C->c=C/\a=[]/\n=shut true C.err/\(C.err=0->l=E')) :
  c=D/\a=Tk/\n=code/\(D.err=0->p=l):=by
 by_cases i:Live E C
 .have e:=z i.1;subst e;obtain⟨k,j,q,s⟩:=F i;obtain⟨u,v,x,y⟩:=I i;have r:=H.1.on A (YZ A) i.2 t b;have d:c=D:=v.same ⟨r.trans j.1,j.2⟩;subst d;exact⟨rfl,by rw[x,q,List.drop_left],by rw[y,s],fun _=>by rw[k,u]⟩
 .have d:¬Live E' C:=fun k=>i (by rw[z k.1];exact k);obtain⟨k,j,q,s⟩:=G i;obtain⟨u,v,x,y⟩:=J d;subst k;exact⟨u,by rw[j,v],by rw[q,x],fun h=>by rw[s h,y h,z h]⟩
structure Gz where
 g:Nat
 gs:Nat
 L:Nat
 L':Nat
 E:bI
 E':bI
 C:bJ
structure Tl where
 ao:Option Addr
 cap:Nat
 m:Int
structure GOK(N:Nat)(W:W_)(x:Gz):Prop where
 c:BM (oW x.L x.g) W x.g x.E x.C
 d:Ds (oW x.L' x.gs) W x.gs x.E' x.C
 same:x.C.err=0->x.E=x.E'
 n1:x.E.s.size<=N
 n2:x.E'.s.size<=N
structure V8 where
 s:Y_
 all:List aC
 g:Option Nat
structure I7(W:W_)(x:V8):Prop where
 sz:x.s.size<=9223372036854775807
 r:∀g,x.g=some g->x.s=strOfNums (Pu.rT (nH x.all))/\Ru W x.all g/\∀j,j<Pu.aV x.all->(gJ x.all j).length<=42
def wT(l:List V8):List V_:=l.flatMap (fun x=>[.string x.s,.pointer (x.g.map fun g=>(a_ g 0))])
def xw(l:List Gz):List V_:=l.flatMap (fun x=>[p_ x.g,p_ x.gs])
def Far(zs:List Gz)(b:Nat):Prop:=∀x∈zs,¬(x.L<=b/\b<x.g)/\¬(x.L'<=b/\b<x.gs)
structure BO where
 gw:Nat
 gd:Nat
 kU:List V8
 zs:List Gz
 ks:Fin 4->List Tl
 n:Int
 Bj:V_
 QF:V_
 L:Fin 4->V_
 M:Fin 4->V_
structure WQ(N B:Nat)(S:BO)(os:List Gz)(W:W_):Prop where
 w:dh W S.gw 37 [S.Bj,S.QF,p_ S.gd]
 im:W.ownsRow S.gd 56 2 S.Bj S.kU.length (wT S.kU)
 sc:W.ownsRow S.gd 63 2 S.QF S.zs.length (xw S.zs)
 parts:∀k,∀x∈S.ks k,Part k W x.ao x.cap x.cap (I_ x.m)/\∀g,x.ao=some (a_ g 0)->g<B
 gz:∀x∈os,GOK N W x
 sz:B<=W.heap.size
 pic:∀x∈S.kU,I7 W x
def Ra(S:BO)(os:List Gz)(t b:Nat):Prop:=(t≠142/\t≠181/\t≠144)/\(t≠37/\t≠56/\t≠63)/\t≠5/\(t=3\/t=48\/t=50->Far os b)/\∀k,t=Br k->∀x∈S.ks k,x.ao≠some (a_ b 0)
def ZW(S:BO)(os:List Gz)(W:W_)(row:Option Nat):Prop:=
 ∀b,row=some b->∀a t fr,W.heap[b]?=some (c_ a t fr)->(∀x∈os,x.g≠b/\x.gs≠b)/\Ra S os t b
section
variable {N B:Nat} {S:BO} {os:List Gz} {W W':W_} {row:Option Nat}
theorem WQ.step(h:WQ N B S os W)(d:ZW S os W row)(f:W.grownBy W' row):WQ N B S os W':=by
 refine⟨bR h.w f (fun e=>(d S.gw e.symm _ _ _ h.w).2.2.1.1 rfl),tX h.im f ?_,tX h.sc f ?_,fun k x a=>⟨?_,(h.parts k x a).2⟩,fun x a=>?_,lt_ h.sz f.size,fun x a=>⟨(h.pic x a).sz,fun g e=>⟨((h.pic x a).r g e).1,((h.pic x a).r g e).2.1.jr (fun b e i t fr c=>(d b e i t fr c).2.1) f,((h.pic x a).r g e).2.2⟩⟩⟩
 .intro g b _ c e;exact (d g e.symm _ _ _ c).2.2.1.2.1 rfl
 .intro g b _ c e;exact (d g e.symm _ _ _ c).2.2.1.2.2 rfl
 .exact (h.parts k x a).1.jr (fun g xs b j=>bR j f (fun e=>(d g e.symm _ _ _ j).2.2.2.2.2 k rfl x a b))
 .have k:=h.gz x a;obtain⟨xs,j⟩:=k.c.fB;obtain⟨ys,l⟩:=k.d.fB;refine⟨k.c.jr ⟨fun e=>((d x.g e.symm _ _ _ j).1 x a).1 rfl,?_⟩ f,k.d.jr ⟨fun e=>((d x.gs e.symm _ _ _ l).1 x a).2 rfl,?_⟩ f,k.same,k.n1,k.n2⟩
  .intro b e i t fr c;have q:=(d b e i t fr c).2;exact⟨q.1,q.2.2.1,fun e=>(q.2.2.2.1 e x a).1⟩
  .intro b e i t fr c;have q:=(d b e i t fr c).2;exact⟨q.1,q.2.2.1,fun e=>(q.2.2.2.1 e x a).2⟩
theorem WQ.apart(h:WQ N B S os W){cs:Array V_}{t:TypeId}{fr:Nat × Nat}(d:W.heap[g]?=some (c_ cs t fr))(c:t≠118/\t≠105):∀x∈os,x.g≠g/\x.gs≠g:=by
 intro x f;have k:=h.gz x f;obtain⟨xs,a⟩:=k.c.fB;obtain⟨ys,b⟩:=k.d.fB;unfold dh at a b;refine⟨fun e=>?_,fun e=>?_⟩
 .rw [e,d]at a;cases a;exact c.1 rfl
 .rw [e,d]at b;cases b;exact c.2 rfl
theorem PQ(h:WQ N B S os W){t:Nat}(a:dh W g t xs)(d:t≠118/\t≠105)(f:Ra S os t g):ZW S os W (some g):=fun b e i j fr c=>by
 cases e;unfold dh at a;rw[a]at c;cases c;exact⟨h.apart a d,f⟩
theorem PR(h:WQ N B S os W){base e size n:Nat}{v:V_}(l:W.ownsRow base e size v n xs)(j:e≠118/\e≠105)(p:∀b,v.ownBlock=some b->Ra S os e b):ZW S os W v.ownBlock:=fun b d a t fr k=>by
 rcases l.2 with ⟨rfl,_⟩ | ⟨g,f,i,rfl,_,c,_⟩
 .cases d
 .cases d;have a:=c;rw[k]at a;cases a;exact⟨h.apart c j,p _ rfl⟩
theorem zx:∀k,(Br k≠118/\Br k≠105)/\(Br k≠142/\Br k≠181/\Br k≠144)/\(Br k≠37/\Br k≠56/\Br k≠63)/\Br k≠5:=d_
theorem yf:∀k,(zl k≠118/\zl k≠105)/\(zl k≠142/\zl k≠181/\zl k≠144)/\(zl k≠37/\zl k≠56/\zl k≠63)/\zl k≠5/\¬(zl k=3\/zl k=48\/zl k=50):=d_
theorem kty_0:∀k,3 = Br k->k=0:=d_
theorem WQ.lets{A:Fin 4->Option Addr}{L M:Fin 4->V_}(i:∀k g,A k=some (a_ g 0)->B<=g/\Far os g)(l:∀k b,(M k).ownBlock=some b->Far os b/\∀x∈S.ks 0,x.ao≠some (a_ b 0)):wF S.gd A L M (WQ N B S os) where
 below:=fun W W' h a=>h.step (row:=none) (fun b e=>by cases e) ⟨a.os,a.tape,a.output,a.size,fun k c _=>a.block k c⟩
 drawer:=fun W j u xs h a=>h.step (PQ h a d_ ⟨d_,d_,d_,fun e=>absurd e d_,fun k e=>absurd e.symm (OV k)⟩) (gs_ W S.gd j u)
 part:=fun W k g j u xs h c a=>h.step (PQ h a (zx k).1 ⟨(zx k).2.1,(zx k).2.2.1,(zx k).2.2.2,fun _=>(i k g c).2,fun j e x f d=>by have:=(h.parts j x f).2 g d;have:=(i k g c).1;omega⟩) (gs_ W g j u)
 lists:=fun W W' k n xs h d c=>h.step (PR h d (yf k).1 (fun _ _=>⟨(yf k).2.1,(yf k).2.2.1,(yf k).2.2.2.1,fun e=>absurd e (yf k).2.2.2.2,fun j e=>absurd e.symm (abI j k)⟩)) c
 numbers:=fun W W' k n xs h d c=>h.step (PR h d d_ (fun b a=>⟨d_,d_,d_,fun _=>(l k b a).1,fun j e x f=>by have:=kty_0 j e;subst this;exact (l k b a).2 x f⟩)) c
end
structure WI(N:Nat)(S:BO)(W:W_):Prop where
 q:WQ N W.heap.size S S.zs W
 d:dh W S.gd 33 (drC S.n S.L S.M)
 l:∀k,W.ownsRow S.gd (zl k) 1 (S.L k) (S.ks k).length ((S.ks k).map fun x=>.slice x.ao x.cap x.cap)
 m:∀k,W.ownsRow S.gd 3 1 (S.M k) (S.ks k).length (bY ((S.ks k).map (·.m)))
 yQ:∀k b,(S.M k).ownBlock=some b->Far S.zs b/\∀x∈S.ks 0,x.ao≠some (a_ b 0)
 apn:∀j k,j≠k->∀g,(S.M j).ownBlock=some g->(S.M k).ownBlock≠some g
 ap:∀(i j:Nat) (x y:Gz),S.zs[i]?=some x->S.zs[j]?=some y->i≠j->x.g≠y.g/\x.gs≠y.gs
 up:S.gd<=S.gw/\∀x∈S.zs,S.gd<=x.g/\S.gd<=x.gs
section
variable {N N' B B':Nat} {S:BO} {zs os os':List Gz} {W W1 W2:W_}
theorem WQ.less(h:WQ N B S os W)(a:∀x∈os',x∈os):WQ N B S os' W:=⟨h.w,h.im,h.sc,h.parts,fun x b=>h.gz x (a x b),h.sz,h.pic⟩
theorem WQ.more(h:WQ N B S os W)(b:B<=B')(c:B'<=W.heap.size):WQ N B' S os W:=
 ⟨h.w,h.im,h.sc,fun k x a=>⟨(h.parts k x a).1,fun g e=>Nat.lt_of_lt_of_le ((h.parts k x a).2 g e) b⟩,h.gz,c,h.pic⟩
theorem Ot(zs:List Gz)(i:Nat)(x y:Gz)(a:zs[i]?=some x)(b:y.g=x.g)(c:y.gs=x.gs):xw (zs.set i y)=xw zs:=by
 induction zs generalizing i with
 | nil=>rfl
 | cons z r d=>
  cases i with
  | zero=>simp at a;subst a;simp[xw,b,c]
  | succ i=>have:=d i (by simpa using a);simp only[ss_];show xw _=_;unfold xw at *;simp only[List.flatMap_cons,this]
theorem uR{zs:List Gz}{i:Nat}{y z:Gz}(h:z∈zs.set i y):z=y\/∃j,j≠i/\zs[j]?=some z:=by
 obtain⟨j,a⟩:=gf_ h;rw[List.getElem?_set]at a;split at a
 .split at a
  .exact .inl (by cases a;rfl)
  .cases a
 .rename_i b;exact .inr ⟨j,fun e=>b e.symm,a⟩
theorem U9{i:Nat}{x y:Gz}(k:zs[i]?=some x)(a:y.g=x.g)(c:y.gs=x.gs)(d:y.L=x.L)(f:y.L'=x.L'){b:Nat}(h:Far zs b):Far (zs.set i y) b:=by
 intro z l;rcases uR l with rfl | ⟨j,_,hj⟩
 .rw [a,c,d,f];exact h x (mg_ k)
 .exact h z (mg_ hj)
theorem WI.ajo(h:WI N S W){i:Nat}{x:Gz}(G:S.zs[i]?=some x){q r:bI}{D:bJ}(l:W.grownBy W1 (some x.g))(p:BM (oW x.L x.g) W1 x.g q D)(n:W1.grownBy W2 (some x.gs))(R:Ds (oW x.L' x.gs) W2 x.gs r D)(hs:D.err=0->q=r)(O:N<=N')(n1:q.s.size<=N')(n2:r.s.size<=N') :
  WI N' { S with zs:=S.zs.set i { x with E:=q,E':=r,C:=D } } W2:=by
 have T:=h.q.gz x (mg_ G);obtain⟨xs,F⟩:=T.c.fB;obtain⟨ys,K⟩:=T.d.fB;obtain⟨ys',X⟩:=R.fB;have f:dh W1 x.gs 105 ys:=bR K l (fun e=>gD K F d_ (oi_ e));have s:∀z∈S.zs.eraseIdx i,z∈S.zs/\z.g≠x.g/\z.gs≠x.gs:=fun z d=>by rw[List.mem_eraseIdx_iff_getElem?]at d;obtain⟨j,a,d⟩:=d;have:=h.ap j i z x d G a;exact⟨mg_ d,this.1,this.2⟩
 have aW:WQ N W.heap.size S (S.zs.eraseIdx i) W:=h.q.less (fun z d=>(s z d).1);have J:ZW S (S.zs.eraseIdx i) W (some x.g):=by intro b e u t fr a;cases e;unfold dh at F;rw[F]at a;cases a;refine⟨fun z d=>⟨(s z d).2.1,fun e=>?_⟩,d_,d_,d_,fun e=>absurd e d_,fun k e=>absurd e.symm (zx k).1.1⟩;obtain⟨j,c⟩:=(aW.gz z d).d.fB;rw[e]at c;unfold dh at c;rw[F]at c;simp at c
 have U:=aW.step J l;have V:ZW S (S.zs.eraseIdx i) W1 (some x.gs):=by intro b e u t fr a;cases e;unfold dh at f;rw[f]at a;cases a;refine⟨fun z d=>⟨fun e=>?_,(s z d).2.2⟩,d_,d_,d_,fun e=>absurd e d_,fun k e=>absurd e.symm (zx k).1.2⟩;obtain⟨j,c⟩:=(U.gz z d).c.fB;rw[e]at c;unfold dh at c;rw[f]at c;simp at c
 have A:=U.step V n;have Y:BM (oW x.L x.g) W2 x.g q D:=by obtain⟨c,d⟩:=p.fB;refine p.jr ⟨fun e=>gD d f d_ (oi_ e),fun b e u t fr a=>?_⟩ n;cases e;unfold dh at f;rw[f]at a;cases a;exact⟨d_,d_,fun e=>absurd e d_⟩
 have t:∀{base e size m:Nat} {v:V_} {c:List V_},W.ownsRow base e size v m c->e≠118->e≠105->W2.ownsRow base e size v m c:=by intro base e size m v c d a b;exact dO (dO d F (fun e=>a e.symm) l) f (fun e=>b e.symm) n
 have sz:W.heap.size<=W2.heap.size:=lt_ l.size n.size;refine⟨⟨A.w,A.im,?_,fun k z d=>⟨(A.parts k z d).1,fun g e=>Nat.lt_of_lt_of_le ((A.parts k z d).2 g e) sz⟩,fun z d=>?_,dF,A.pic⟩,?_,fun k=>t (h.l k) (yf k).1.1 (yf k).1.2,fun k=>t (h.m k) d_ d_,fun k b Q=>⟨U9 (y:={ x with E:=q,E':=r,C:=D }) G rfl rfl rfl rfl (h.yQ k b Q).1,(h.yQ k b Q).2⟩,h.apn,?_,h.up.1,fun z d=>?_⟩
 .rw [Ot S.zs i x { x with E:=q,E':=r,C:=D } G rfl rfl,le_];exact A.sc
 .rcases uR d with rfl | ⟨j,a,hz'⟩
  .exact⟨Y,R,hs,n1,n2⟩
  .have k:=A.gz z (by rw[List.mem_eraseIdx_iff_getElem?];exact⟨j,a,hz'⟩);exact⟨k.c,k.d,k.same,lt_ k.n1 O,lt_ k.n2 O⟩
 .have a:=bR h.d l (fun e=>gD h.d F d_ (oi_ e));exact bR a n (fun e=>gD a f d_ (oi_ e))
 .intro a b u v hu hv H;have j:∀(c:Nat) (z:Gz),(S.zs.set i { x with E:=q,E':=r,C:=D })[c]?=some z->∃I,S.zs[c]?=some I/\z.g=I.g/\z.gs=I.gs:=by
   intro c z p;rw[List.getElem?_set]at p;split at p
   .rename_i e;subst e;split at p
    .cases p;exact⟨x,G,rfl,rfl⟩
    .cases p
   .exact⟨z,p,rfl,rfl⟩
  obtain⟨u',c,Z,e2⟩:=j a u hu;obtain⟨v',I,e3,e4⟩:=j b v hv;rw[Z,e2,e3,e4];exact h.ap a b u' v' c I H
 .rcases uR d with rfl | ⟨j,a,hz'⟩
  .exact h.up.2 x (mg_ G)
  .exact h.up.2 z (mg_ hz')
end
def I9(c:List aC)(b a:Int)(w:W_)(e:Ending)(w':W_):Prop:=
 (((1<=b/\b<=64)/\(0<=a/\a<=8))/\∃g,e=.returned (.tuple #[p_ g,I_ 0])/\w.heap.size<=g/\B_ w w'/\Ds (oW w.heap.size g) w' g (xR (nH c) b a) (rP (nH c)))\/
 (¬((1<=b/\b<=64)/\(0<=a/\a<=8))/\e=.returned (.tuple #[.pointer none,I_ 3])/\B_ w w')
theorem Ho(g:Nat)(c:List aC)(b a:Int)(w:W_)(l:Ru w c g)(q:∀j,j<Pu.aV c->(gJ c j).length<=42)(v:Nz b)(u:Nz a) :
  Calls prog 20 #[p_ g,I_ b,I_ a] w (I9 c b a w):=by
 have s:Hid (gu (nH c)):=by obtain⟨B,r,t,f,i,d,k,n,p⟩:=l;exact tu d q
 have t:=bL l;have i:=bL q;clear l q;go_in;by_cases d:b<1
 .have y:decide (b<1)=true:=dt_ d;go_wp2;go_ret2;exact .inr ⟨fun h=>o_,rfl,Br_ _ _⟩
 have y:decide (b<1)=false:=dn_ d;by_cases f:64<b
 .have z:decide (64<b)=true:=dt_ f;go_wp2;go_ret2;exact .inr ⟨fun h=>o_,rfl,Br_ _ _⟩
 have z:decide (64<b)=false:=dn_ f;by_cases n:a<0
 .have A:decide (a<0)=true:=dt_ n;go_wp2;go_ret2;exact .inr ⟨fun h=>o_,rfl,Br_ _ _⟩
 have A:decide (a<0)=false:=dn_ n;by_cases p:8<a
 .have D:decide (8<a)=true:=dt_ p;go_wp2;go_ret2;exact .inr ⟨fun h=>o_,rfl,Br_ _ _⟩
 have D:decide (8<a)=false:=dn_ p;have k:Hid ((1<=b/\b<=64)/\(0<=a/\a<=8)):=⟨⟨o_,o_⟩,⟨o_,o_⟩⟩;have Z:Hid (dh (w.alloc (c_ #[n_,n_,n_,p_ g,I_ b,I_ a,.string ⟨#[]⟩,.bool false,I_ 0,I_ 0,I_ 0,I_ 1,I_ 1,I_ 0,I_ 0,I_ 0,I_ 0] 105)) w.heap.size 105 [n_,n_,n_,p_ g,I_ b,I_ a,.string ⟨#[]⟩,.bool false,I_ 0,I_ 0,I_ 0,I_ 1,I_ 1,I_ 0,I_ 0,I_ 0,I_ 0]):=hn_ _ _;have r:Hid (B_ w (w.alloc (c_ #[n_,n_,n_,p_ g,I_ b,I_ a,.string ⟨#[]⟩,.bool false,I_ 0,I_ 0,I_ 0,I_ 1,I_ 1,I_ 0,I_ 0,I_ 0,I_ 0] 105))):=kM _;clear d f n p;go_wp2;go_ret2;obtain⟨f,n⟩:=aa2 s.o k.o.1 k.o.2;exact .inl ⟨k.o,w.heap.size,rfl,dF,r.o,⟨ZR g,f,⟨fun x d=>(by cases d),fun x d=>(by cases d),fun x d=>(by cases d)⟩,Z.o,.inr ⟨g,rfl,c,rfl,t.o.below r.o,i.o⟩,n,af9 _ _ _⟩⟩
def sK(s:Y_)(b a:Int)(w:W_)(e:Ending)(w':W_):Prop:=
 (rX s b a/\∃g,e=.returned (.tuple #[p_ g,I_ 0])/\w.heap.size<=g/\B_ w w'/\Ds (oW w.heap.size g) w' g (xR (eG s) b a) (rP (eG s)))\/
 (¬(Form s/\gu (eG s))/\e=.returned (.tuple #[.pointer none,I_ 2])/\B_ w w')\/
 ((Form s/\gu (eG s))/\¬((1<=b/\b<=64)/\(0<=a/\a<=8))/\e=.returned (.tuple #[.pointer none,I_ 3])/\B_ w w')
theorem Mj(s:Y_)(b a:Int)(w:W_)(V:s.size<=9223372036854775807)(O:Nz b)(K:Nz a) :
  Calls prog 21 #[.string s,I_ b,I_ a] w (sK s b a w):=by
 go_in;go_wp2_with fail;refine (uU s _ V).mono ?_;rintro e y (⟨hF,j,ve,vr,vc,rfl,d,l,n,k⟩ | ⟨hF,rfl,d⟩);rotate_left
 .have f:=bL hF;have c:=bL d;clear hF d;go_wp2;go_ret2;exact .inr (.inl ⟨f.o,rfl,c.o.alloc c.o.size _⟩)
 .have f:(eG s).ents.length=nE s:=qR _ _ _;have p:(eG s).rules.length=nR s:=lH _ _ _;have q:(eG s).code.length=nC s:=tq _ _ _;rw[<-f]at l;rw[<-p]at n;rw[<-q]at k;have R:=j.1.1;have T:=j.2.1.1;have U:=j.2.2.1.1;obtain⟨ge,D,rfl,Z,e2⟩:=dL l o_;obtain⟨I,F,rfl,r1,r2⟩:=dL n o_;obtain⟨H,A,rfl,X,Y⟩:=dL k o_;have u:=bL (And.intro (iN l) (And.intro (iN n) (iN k)));have J:Hid (Lists y (eG s) _ _ _):=⟨dH l (zl_ _),dH n (zl_ _),dH k (zl_ _)⟩;have i:=bL (And.intro hF j);have c:=bL d;clear l n k hF j d f p q;by_cases f:b<1
  .have q:decide (b<1)=true:=dt_ f;go_wp2;go_ret2;exact .inr (.inr ⟨i.o,fun h=>o_,rfl,c.o.alloc c.o.size _⟩)
  by_cases p:64<b
  .have q:decide (b<1)=false:=dn_ f;have v:decide (64<b)=true:=dt_ p;go_wp2;go_ret2;exact .inr (.inr ⟨i.o,fun h=>o_,rfl,c.o.alloc c.o.size _⟩)
  by_cases r:a<0
  .have q:decide (b<1)=false:=dn_ f;have v:decide (64<b)=false:=dn_ p;have G:decide (a<0)=true:=dt_ r;go_wp2;go_ret2;exact .inr (.inr ⟨i.o,fun h=>o_,rfl,c.o.alloc c.o.size _⟩)
  by_cases x:8<a
  .have q:decide (b<1)=false:=dn_ f;have v:decide (64<b)=false:=dn_ p;have G:decide (a<0)=false:=dn_ r;have Q:decide (8<a)=true:=dt_ x;go_wp2;go_ret2;exact .inr (.inr ⟨i.o,fun h=>o_,rfl,c.o.alloc c.o.size _⟩)
  have q:decide (b<1)=false:=dn_ f;have v:decide (64<b)=false:=dn_ p;have G:decide (a<0)=false:=dn_ r;have Q:decide (8<a)=false:=dn_ x;have t:Hid ((1<=b/\b<=64)/\(0<=a/\a<=8)):=⟨⟨o_,o_⟩,⟨o_,o_⟩⟩;clear f p r x;go_wp2;go_ret2;obtain⟨f,r⟩:=aa2 i.o.2 t.o.1 t.o.2;refine .inl ⟨⟨i.o,t.o⟩,y.heap.size+1,rfl,by have:=c.o.size;omega,(c.o.alloc c.o.size _).alloc (by have:=c.o.size;simp;omega) _,⟨ZI _ _ _,f,⟨fun x p=>by cases p;have:=u.o.1;exact⟨this.1,Nat.lt_succ_of_lt this.2⟩,fun x p=>by cases p;have:=u.o.2.1;exact⟨this.1,Nat.lt_succ_of_lt this.2⟩,fun x p=>by cases p;have:=u.o.2.2;exact⟨this.1,Nat.lt_succ_of_lt this.2⟩⟩,?_,.inl ⟨_,_,_,rfl,(J.o.below (kM _)).below (kM _)⟩,r,af9 _ _ _⟩⟩;have z:=hn_ (y.alloc (c_ #[s_ ge (eG s).ents.length D,s_ I (eG s).rules.length F,s_ H (eG s).code.length A] 42)) (c_ #[s_ ge (eG s).ents.length D,s_ I (eG s).rules.length F,s_ H (eG s).code.length A,.pointer none,I_ b,I_ a,.string ⟨#[]⟩,.bool false,I_ 0,I_ 0,I_ 0,I_ 1,I_ 1,I_ 0,I_ 0,I_ 0,I_ 0] 105);rw[wa_]at z;exact z
theorem uu{j:Nat}{u:V_}(h:xs[j]?=some u):(xs++ys)[j]?=some u:=by have:=(ge_.1 h).1;rw[al_ this];exact h
theorem NU{c:Nat}{l:List Int}(h:dh w g 3 (bY l++ys))(a:l.length<=c)(d:c<=9223372036854775807):om w (s_ g l.length c) l:=by refine⟨_,c,rfl,a,d,fun i b=>⟨g,0,rfl,bP h,?_⟩⟩;rw[Nat.zero_add];exact bN h (uu (oo l i b))
theorem Jl{c:Nat}{l:List mg}(h:dh w g 48 (dP l++ys))(a:l.length<=c)(d:c<=9223372036854775807):jX w (s_ g l.length c) l:=by refine⟨_,c,rfl,a,d,fun i b=>⟨g,0,rfl,bP h,?_⟩⟩;have q:=pz l i b;rw[Nat.mul_comm]at q;rw[Nat.zero_add];exact⟨bN h (uu q.1),bN h (uu q.2.1),bN h (uu q.2.2)⟩
theorem NR{c:Nat}{l:List ed}(h:dh w g 50 (dw l++ys))(a:l.length<=c)(d:c<=9223372036854775807):Code w (s_ g l.length c) l:=by refine⟨_,c,rfl,a,d,fun i b=>⟨g,0,rfl,bP h,?_⟩⟩;have q:=ng l i b;rw[Nat.mul_comm]at q;rw[Nat.zero_add];exact⟨bN h (uu q.1),bN h (uu q.2.1),bN h (uu q.2.2.1),bN h (uu q.2.2.2)⟩
theorem Gn{n j:Nat}{u:V_}(a:xs.length=n)(h:ys[j]?=some u):(xs++ys)[n+j]?=some u:=by subst a;rw[ar_ o_];simpa using h
theorem Za(ge q n:Nat)(A D z:V_)(p:lZ)(w:W_)(be:dh w ge 3 (bY p.ents++[I_ (-5)]))(t:dh w q 48 (dP p.rules++[I_ 0,I_ 0,I_ (-5)]))(s:dh w n 50 (dw p.code++[I_ (-5),I_ 0,I_ 0,I_ 0]))
  (v:om w A p.ents) (x:jX w D p.rules) (u:Code w z p.code) (Y:p.ents.length<=1000000000000000) (X:p.rules.length<=1000000000000000) (Z:p.code.length<=1000000000000000) :
  Calls prog 34 #[.agg #[s_ ge p.ents.length (p.ents.length+1),s_ q p.rules.length (p.rules.length+1),s_ n p.code.length (p.code.length+1)],.agg #[A,D,z]] w (aac w):=by
 obtain⟨K,G,rfl,R,T⟩:=v.form;obtain⟨dr,I,rfl,U,V⟩:=x.form;obtain⟨J,F,rfl,O,Q⟩:=u.form;have H:=bL (And.intro (NU (c:=p.ents.length+1) be o_ o_) (And.intro (Jl (c:=p.rules.length+1) t o_ o_) (And.intro (NR (c:=p.code.length+1) s o_ o_) (And.intro v (And.intro x u)))));have d:=bL (And.intro be (And.intro t s));clear be t s v x u;have a:=bL (((Br_ w.heap.size w).alloc dF (c_ #[s_ ge p.ents.length (p.ents.length+1),s_ q p.rules.length (p.rules.length+1),s_ n p.code.length (p.code.length+1)] 42)).alloc i_ (c_ #[.slice K p.ents.length G,.slice dr p.rules.length I,.slice J p.code.length F] 42));go_in;go_wp2_with fail;refine (yD _ _ _ _ _ _ p _ (H.o.1.below a.o) (H.o.2.1.below a.o) (H.o.2.2.1.below a.o) (H.o.2.2.2.1.below a.o) (H.o.2.2.2.2.1.below a.o) (H.o.2.2.2.2.2.below a.o)).mono ?_;rintro e r ⟨rfl,b⟩;have l:B_ w r:=a.o.trans (b.mono (by simp;omega));have y:=(Dc b).1;have i:=bO d.o.1 l (bP d.o.1);have k:=bO d.o.2.1 l (bP d.o.2.1);have f:=bO d.o.2.2 l (bP d.o.2.2);have le:r.cell? (a_ ge (p.ents.length))=some (I_ (-5)):=bN i (Gn (j:=0) (kY _) rfl);have lr:r.cell? (a_ q (p.rules.length*3+2))=some (I_ (-5)):=bN k (Gn (j:=2) (gY _) rfl);have lc:r.cell? (a_ n (p.code.length*4))=some (I_ (-5)):=bN f (Gn (j:=0) (fT _) rfl);clear i k f b;go_wp2;go_ret;exact⟨rfl,l⟩
theorem Tryz.info56 : (prog.info? 56).map (fun i=>(i.zero,i.size,i.bytes))=some (some (.agg #[.string ⟨#[]⟩,.pointer none]),2,24):=k_
theorem Rv{t:TypeId}{n:Nat}(a:n=w.heap.size)(j:Nat)(u:V_)(h:xs[j]?=some u):(w.alloc (c_ xs.toArray t)).cell? (((a_ n 0):Addr).add j)=some u:=jL a j u h
theorem Rz(s:Y_)(a no:Int)(c:uL s a no)(w:W_)(d:zo s) :
  Calls prog 41 #[.string s] w (mY (.tuple #[I_ a,I_ no]) w):=by
 have b:=bL (Jr s a no c w d);clear c d;go_in;go_wp2_with fail;refine b.o.mono ?_;clear b;rintro e f ⟨p,rfl,b,_⟩;go_wp2;go_ret2;exact⟨rfl,b⟩
theorem Oa(s:Y_)(w:W_)(j:zo s):Calls prog 15 #[.string s] w (mY (.bool true) w):=by
 have d:=bL j;clear j;go_in;go_wp2_with fail;refine (Wq s w).mono ?_;rintro e k ⟨b,no,rfl,a,i⟩;have f:=bL (Rz s b no i k d.o);have c:=bL a;clear i a d;go_wp2_with fail;refine f.o.mono ?_;clear f;rintro e i ⟨rfl,a⟩;have d:=bL (c.o.trans (a.mono c.o.size));clear a;go_wp2_with fail;refine (LU b i).mono ?_;rintro e n ⟨rfl,a⟩;have f:=bL (d.o.trans (a.mono d.o.size));clear a;have a:(b == b)=true:=i_;have l:(no == no)=true:=i_;go_wp2;go_ret;exact⟨rfl,f.o⟩
end Go.Proofs.YtmccnmgaoppogabGreat
