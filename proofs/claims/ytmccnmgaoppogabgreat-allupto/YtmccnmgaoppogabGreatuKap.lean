import Derived.Test.YtmccnmgaoppogabGreatuE20A
import Derived.WalkSmall
namespace Go.Proofs.YtmccnmgaoppogabGreat
open Pu
set_option linter.all false
open Go.Proofs.Tryz Tryz
set_option maxRecDepth 100000
set_option maxHeartbeats 8000000
open Go.RowKit
variable {B base n size t:Nat} {w:W_} {v:V_} {xs:List V_}
def lC(q:aD × V_ × V_):List V_:=[I_ q.1.mode,I_ q.1.emit,I_ q.1.act,I_ q.1.md,.bool q.1.pt.empty,q.2.1,q.2.2,.bool q.1.down]
def Vq(a:List (aD × V_ × V_)):List V_:=a.flatMap lC
theorem SV(a b:List (aD × V_ × V_)):Vq (a++b)=Vq a++Vq b:=by simp[Vq]
theorem aeC{a:List (aD × V_ × V_)}{p j:Nat}{q:aD × V_ × V_}(h:a[p]?=some q)(d:j<8):(Vq a)[p*8+j]?=(lC q)[j]?:=by
 induction a generalizing p with
 | nil=>simp at h
 | cons z r c=>
  show (lC z++Vq r)[_]?=_;have b:(lC z).length=8:=rfl;cases p with
  | zero=>rw[List.getElem?_cons_zero]at h;cases h;rw[Nat.zero_mul,Nat.zero_add,al_ o_]
  | succ p=>rw[cs_]at h;rw[ar_ o_,b,(o_:(p+1)*8+j-8=p*8+j)];exact c h
def Lm(B:Nat)(W:W_)(v:V_)(ls:List aD):Prop:=∃b,W.ownsRow B 129 8 v b.length (Vq b)/\b.map (·.1)=ls/\∀q∈b,(∃a n c,q.2.1=.slice a n c)/\(∃a n c,q.2.2=.slice a n c)/\fe W q.2.1 q.1.pt.first/\fe W q.2.2 q.1.pt.last
theorem Rk.rows{B':Nat}{w':W_}(h:Rk B w w')(a:w.ownsRow B' t size v n xs)(b:t≠199)(c:t≠248):w'.ownsRow B' t size v n xs:=by
 refine⟨a.1,?_⟩;rcases a.2 with h0 | ⟨g,cap,cur,h3,h4,h5,h6⟩
 .exact .inl h0
 .exact .inr ⟨g,cap,cur,h3,h4,h.jr g _ _ _ h5 b c,h6⟩
theorem fU{w':W_}{B' i a n':Nat}{j:V_}{ys:List V_}(h:w.ownsRow B t size v n xs)(k:w.ownsRow B' i a j n' ys)(q:t≠i)(l:w.grownBy w' j.ownBlock):w'.ownsRow B t size v n xs:=by
 refine⟨h.1,?_⟩;rcases h.2 with h0 | ⟨g,cap,cur,h1,h2,h3,h4⟩
 .exact .inl h0
 .refine .inr ⟨g,cap,cur,h1,h2,?_,h4⟩;have p:=(Array.getElem?_eq_some_iff.1 h3).1;rw[l.block g p (fun e=>by
   rcases k.2 with ⟨b,_⟩ | ⟨r,c,d,b,_,f,_⟩
   .rw [b]at e;cases e
   .rw [b]at e;cases e;rw[h3]at f;cases f;exact q rfl)]
  exact h3
section
variable {B B':Nat} {W W':W_} {v:V_} {ls:List aD}
theorem Lm.rk(h:Lm B W v ls)(c:Rk B' W W'):Lm B W' v ls:=by obtain⟨f,d,e,a⟩:=h;exact⟨f,c.rows d d_ d_,e,fun q b=>⟨(a q b).1,(a q b).2.1,c.jK (a q b).2.2.1,c.jK (a q b).2.2.2⟩⟩
theorem Lm.below(h:Lm B W v ls)(a:B_ W W'):Lm B W' v ls:=h.rk (.below dF a)
theorem Lm.len(h:Lm B W v ls):∃a c,v=.slice a ls.length c/\ls.length<=c/\c<=9223372036854775807:=by
 obtain⟨f,b,d,_⟩:=h;have e:ls.length=f.length:=by rw[<-d,lm_]
 rw[e];exact eO b
end
theorem JH:(prog.info? 129).map (fun i=>(i.zero,i.size,i.bytes))=some (some (.agg (tQ 0 0 0 0 false none 0 0 none 0 0 false).toArray),8,96):=k_
theorem tV(W:W_)(e size:Nat):(W.alloc (c_ #[] e)).ownsRow W.heap.size e size (s_ W.heap.size 0 0) 0 []:=
 ⟨i_,.inr ⟨W.heap.size,0,#[],rfl,dF,hn_ W _,dF,by unfold maxLen;omega,i_,i_⟩⟩
theorem CQ{c:Array Oper}{rest:List Oper}{o:Oper}{a:Act}{Q:Exit->Act->W_->Prop}(g:o.guard=none)(s x:Operand)
  (A:o.op=.call { callee:=.builtin .append,args:=#[s,x],argTypes:=#[119,119] }) (base:Nat) (v:V_) (b:List (aD × V_ × V_)) (D:a.eval s=v) (r:w.ownsRow base 129 8 v b.length (Vq b))
  (f:Nat) (q:aD × V_ × V_) (E:a.eval x=s_ f 1 1) (z:dh w f 129 (lC q)) (C:∀u∈lC q,u.oneCell'=true) (H:b.length<=1000) (G:base<=w.heap.size)
  (h:∀d w',w'.ownsRow base 129 8 d (b++[q]).length (Vq (b++[q]))->w.grownBy w' v.ownBlock->wpList prog c Q rest (a.put o.dst d) w'):wpList prog c Q (o::rest) a w:=by
 obtain⟨F,i,k,l,p⟩:=ip_ JH;refine wo_ _ g s x 119 A base 129 F _ 8 96 underlying119 i k l p rfl d_ v b.length (Vq b) D r (a_ f 0) 1 1 (lC q) E rfl ?_ C (by unfold maxLen;omega) o_ G ?_
 .intro j y e;have:=bN z e;simpa [add_eq]using this
 .intro d w' j y _;refine h d w' ?_ y;rw[la_,SV];have e:Vq [q]=lC q:=by simp[Vq]
  rw[e];exact j
theorem abP{x:aD}{a b:Option Addr}{m c k:Nat}:∀u∈lC (x,.slice a m c,.slice b n k),u.oneCell'=true:=by intro u d;simp[lC]at d;rcases d with rfl | rfl | rfl | rfl | rfl | rfl | rfl | rfl <;> rfl
theorem Rk.aaU{c i:W_}(h:Rk B w c)(g:c.ownsRow base t size v n xs)(r:w.heap.size<=base)(l:B<=w.heap.size)(d:c.grownBy i v.ownBlock):Rk B w i:=by refine⟨h.lo.grown d (lt_ l h.lo.size) (fun k e=>by have:=(ol_ g k e).1;omega),fun k j q fr f a b=>?_⟩;have p:=(Array.getElem?_eq_some_iff.1 f).1;have:=h.jr k j q fr f a b;rw[d.block k (Nat.lt_of_lt_of_le p h.lo.size) (fun e=>by have:=(ol_ g k e.symm).1;omega)];exact this
theorem Rd.aa4{g i:Nat}{s:Y_}{ps:List Pu.aJ}{d:Bool}{f:V_}{c:List (Pu.aJ × V_)}{W W':W_}(h:Rd B g s i ps d f c W)(b:W.ownsRow base t size v n xs)(j:t≠199)(k:t≠248)(l:t≠3)(a:W.grownBy W' v.ownBlock):Rd B g s i ps d f c W':=
 ⟨dZ b h.rb (fun e=>j e.symm) a,h.up,fU h.own b (fun e=>k e.symm) a,h.ps,fun q p=>fU (h.nx q p) b (fun e=>l e.symm) a⟩
theorem Lm.add{W W':W_}{j:V_}{ls:List aD}{d:List (aD × V_ × V_)}{x:aD}{a b:Option Addr}{m c k:Nat}(g:W.ownsRow base 129 8 v d.length (Vq d))(l:d.map (·.1)=ls)(f:∀q∈d,(∃a n c,q.2.1=.slice a n c)/\(∃a n c,q.2.2=.slice a n c)/\fe W q.2.1 q.1.pt.first/\fe W q.2.2 q.1.pt.last)
  (n1:fe W (.slice a m c) x.pt.first) (r:fe W (.slice b n k) x.pt.last) (i:W'.ownsRow base 129 8 j (d++[(x,Value.slice a m c,Value.slice b n k)]).length (Vq (d++[(x,Value.slice a m c,Value.slice b n k)]))) (e:W.grownBy W' v.ownBlock):Lm base W' j (ls++[x]):=by
 refine⟨_,i,by simp[l],fun q p=>?_⟩;rcases ma_.1 p with h | h
 .exact⟨(f q h).1,(f q h).2.1,fU (f q h).2.2.1 g d_ e,fU (f q h).2.2.2 g d_ e⟩
 .simp at h;subst h;exact⟨⟨_,_,_,rfl⟩,⟨_,_,_,rfl⟩,fU n1 g d_ e,fU r g d_ e⟩
def ags(B g:Nat)(s:Y_)(w:W_)(e:Ending)(w':W_):Prop:=
 (∃a v d,uk s 0 [] a/\e=.returned (.tuple #[v,.bool true])/\Lm w.heap.size w' v (dx a).1/\Rk B w w'/\I8 B g s s.size (dx a).2 d w')\/
 (∃k a b,xF s 0 0 k/\e=.returned (.tuple #[n_,.bool false])/\Rk B w w'/\I8 B g s k a b w')
structure LnI(B g:Nat)(s:Y_)(w:W_)(k:Nat)(ls:List aC)(v:V_)(W:W_):Prop where
 lm:Lm w.heap.size W v (dx ls).1
 rd:∃d,I8 B g s k (dx ls).2 d W
 rk:Rk B w W
 kl:k<=s.size
 pl:(dx ls).2.length<=k
 yes:∀all,uk s k ls all->uk s 0 [] all
 no:∀k',xF s k ls.length k'->xF s 0 0 k'
 n:ls.length<16
theorem sU(ls:List aC)(x:aC):dx (ls++[x])=C9 (dx ls) x:=by simp[dx]
theorem Jd(ls:List aC):(dx ls).1.length=ls.length:=(jw ls).n
namespace Pu
theorem I6.le{s:Y_}{i k:Nat}{x:aC}(h:I6 s i k x):i+x.re.leaves<=k/\i<k/\k<=s.size:=by
 cases h with
 | mk e f c g d=>have a:=c.leaves;have b:=d.le;simp only[aH.lv]at a;simp only;omega
end Pu
theorem XF(B g:Nat)(s:Y_)(d:Bool)(w:W_)(h:I8 B g s 0 [] d w)(hs:s.size<=400) :
  Calls prog 91 #[p_ g] w (ags B g s w):=by
 obtain⟨il,hil,hl0,hl1,hl2⟩:=ip_ JH;have BL:=h.lt;have b:Hid (LnI B g s w 0 [] (s_ w.heap.size 0 0) (w.alloc (c_ #[] 129))):=⟨⟨[],tV _ _ _,rfl,fun q a=>by simp at a⟩,⟨d,h.below (kM _)⟩,.alloc BL _,zl_ _,zl_ _,fun _ k=>k,fun _ k=>k,d_⟩;clear h;go_in;go_wp2_with fail;go_loopg [4,5,6] s.size (fun gk v _ _ a=>∃k ls,gk=s.size-k/\LnI B g s w k ls v a);exact⟨0,[],rfl,b.o⟩;clear b;obtain⟨k,ls,rfl,a⟩:=hrel;obtain⟨d1,u⟩:=a.rd;have b:=bL (abN B g k s _ d1 wr u (jw ls).ok a.pl a.kl hs);have A:=bL a;have kl:=a.kl;have nl16:=a.n;clear a u;go_wp2_with fail;refine b.o.mono ?_;clear b;rintro e E (⟨y,x,b,p,j,f,r,l,hL,rfl,n1,n2,D,u⟩ | ⟨y,mode,em,V,md,c,b,p,j,f,r,l,dn,ps',d',hF,rfl,D,u⟩);rotate_left
 .have a:=(Br_ E.heap.size E).alloc dF (c_ (tQ mode em V md c b p j f r l dn).toArray 129);have q:Hid (Rk B w (E.alloc (c_ (tQ mode em V md c b p j f r l dn).toArray 129))):=(A.o.rk.trans D).trans (.below u.lt a);have z:=bL (u.below a);have F:=bL (A.o.no _ (.here hF));clear a D u hF A;simp only[tQ]at q z;simp only[tQ];go_wp2;go_ret2;exact .inr ⟨_,_,_,F.o,rfl,q.o,z.o⟩
 .have a:=(Br_ E.heap.size E).alloc dF (c_ (tQ x.mode x.emit x.act x.md (Pu.part x.re (dx ls).2).1.empty b p j f r l x.down).toArray 129);have C:dh (E.alloc (c_ (tQ x.mode x.emit x.act x.md (Pu.part x.re (dx ls).2).1.empty b p j f r l x.down).toArray 129)) E.heap.size 129 (tQ x.mode x.emit x.act x.md (Pu.part x.re (dx ls).2).1.empty b p j f r l x.down):=hn_ _ _;have Z:=(A.o.lm.rk D).below a;have R:Hid (Rk B w (E.alloc (c_ (tQ x.mode x.emit x.act x.md (Pu.part x.re (dx ls).2).1.empty b p j f r l x.down).toArray 129))):=(A.o.rk.trans D).trans (.below u.lt a);have U:=bL (u.below a);have T:=bL (n1.below a);have J:=bL (n2.below a);have H:=bL hL;have kb:=hL.le;have pl0:=A.o.pl;have pln:=iC x.re (dx ls).2;clear a D u n1 n2 hL;obtain⟨X,Y⟩:∃X,X=x.lp (Pu.part x.re (dx ls).2).1:=⟨_,rfl⟩;have eC:tQ x.mode x.emit x.act x.md (Pu.part x.re (dx ls).2).1.empty b p j f r l x.down=lC (X,.slice b p j,.slice f r l):=by rw[Y];rfl
  have F:Hid (fe (E.alloc (c_ (tQ x.mode x.emit x.act x.md (Pu.part x.re (dx ls).2).1.empty b p j f r l x.down).toArray 129)) (.slice b p j) X.pt.first):=by rw[Y];exact T.o
  have G:Hid (fe (E.alloc (c_ (tQ x.mode x.emit x.act x.md (Pu.part x.re (dx ls).2).1.empty b p j f r l x.down).toArray 129)) (.slice f r l) X.pt.last):=by rw[Y];exact J.o
  have HX:=bL Y;clear T J Y;rw[eC]at C Z R U F G;rw[eC];clear eC;obtain⟨qs,own,a,q⟩:=Z;have qn:qs.length=ls.length:=by rw[<-Jd ls,<-a,lm_]
  have K:=bL own;have HM:=bL a;have L:=bL q;have C:=bL C;obtain⟨av,cv,rfl,_,_⟩:=eO own;clear own a q;have szw:=R.o.lo.size;simp only[lC]at C R U F G K L;simp only[lC];go_upto_region 5 with (fail);generalize E.alloc (c_ #[I_ X.mode,I_ X.emit,I_ X.act,I_ X.md,.bool X.pt.empty,.slice b p j,.slice f r l,.bool X.down] 129)=I at *;generalize E.heap.size=gB at *;have b0:=bQ 0 C.o rfl;have b1:=bQ 1 C.o rfl;have b2:=bQ 2 C.o rfl;have b3:=bQ 3 C.o rfl;have b4:=bQ 4 C.o rfl;have b5:=bQ 5 C.o rfl;have b6:=bQ 6 C.o rfl;have b7:=bQ 7 C.o rfl;have z:=(Br_ I.heap.size I).alloc dF (c_ (lC (X,.slice b p j,.slice f r l)).toArray 129);have S:Hid (Rk B w (I.alloc (c_ (lC (X,.slice b p j,.slice f r l)).toArray 129))):=R.o.trans (.below U.o.lt z);have R3:=bL (U.o.below z);have T:=bL (F.o.below z);have J:=bL (G.o.below z);have Q:=bL (bW K.o z dF);have O:Hid (∀q∈qs,(∃a n c,q.2.1=.slice a n c)/\(∃a n c,q.2.2=.slice a n c)/\fe (I.alloc (c_ (lC (X,.slice b p j,.slice f r l)).toArray 129)) q.2.1 q.1.pt.first/\fe (I.alloc (c_ (lC (X,.slice b p j,.slice f r l)).toArray 129)) q.2.2 q.1.pt.last):=fun q a=>⟨(L.o q a).1,(L.o q a).2.1,(L.o q a).2.2.1.below z,(L.o q a).2.2.2.below z⟩;have BN:Hid (dh (I.alloc (c_ (lC (X,.slice b p j,.slice f r l)).toArray 129)) I.heap.size 129 (lC (X,.slice b p j,.slice f r l))):=hn_ _ _;have a:=S.o.lo.size;clear z R U F G K L;go_upto_region 6 with (at_builtin;refine CQ rfl (.tmp 15) (.tmp 17) rfl w.heap.size _ qs rfl Q.o I.heap.size (X,.slice b p j,.slice f r l) rfl BN.o abP o_ a ?_;intro v4 z G F);have L4:Hid (Lm w.heap.size z v4 (dx (ls++[x])).1):=by have:=Lm.add Q.o HM.o O.o T.o J.o G F;rw[HX.o]at this;rw[sU];exact this
  have K4:=bL (S.o.aaU Q.o dF BL F);have N:Hid (I8 B g s y (dx (ls++[x])).2 x.down z):=by obtain⟨L,q,K⟩:=R3.o;rw[sU];exact⟨L,q,K.aa4 Q.o d_ d_ d_ F⟩
  have q:Hid ((dx (ls++[x])).2.length<=y):=by rw[sU];show (Pu.part x.re (dx ls).2).2.length<=y;omega
  obtain⟨a4,c4,rfl,_,_⟩:=eO G;have K:(qs++[(X,Value.slice b p j,Value.slice f r l)]).length=ls.length+1:=by simp[qn]
  rw[K]at L4;rw[K];clear G F Q HM O T J S R3 BN K b0 b1 b2 b3 b4 b5 b6 b7 C hil hl0 hl1 hl2 szw a;obtain⟨vp4,qs4,a⟩:=N.o;have c0:=bQ 0 a.rb rfl;have c1:=bQ 1 a.rb rfl;clear a;by_cases K:y=s.size
  .have e1:((y:Int) == (s.size:Int))=true:=by simp[K]
   have F:Hid (uk s 0 [] (ls++[x])):=A.o.yes _ (.done (by rw[<-K];exact H.o));have G:Hid (I8 B g s s.size (dx (ls++[x])).2 x.down z):=by rw[<-K];exact N.o
   clear K N A H q;go_wp2_with fail;go_quiet (fail);go_wp2;go_ret2;have dn:=bd_ (Br_ z.heap.size z);exact .inl ⟨_,_,_,F.o,rfl,L4.o.below (dn _),K4.o.trans (.below G.o.lt (dn _)),G.o.below (dn _)⟩
  .have e1:((y:Int) == (s.size:Int))=false:=by simp;omega
   go_wp2_with fail;go_quiet (fail);have dn:=bd_ (Br_ z.heap.size z) nq;have L5:=bL (L4.o.below dn);have S:Hid (Rk B w (z.drewN nq)):=K4.o.trans (.below N.o.lt dn);have G:=bL (N.o.below dn);clear dn L4 K4 N c0 c1 e1;generalize z.drewN nq=W5 at *;by_cases h16:ls.length+1=16
   .have e2:((ls.length:Int)+1 == 16)=true:=by simp;omega
    have F:Hid (xF s 0 0 y):=A.o.no _ (.full H.o K (.inl h16));clear A H K;go_wp2;go_ret2;exact .inr ⟨_,_,_,F.o,rfl,S.o,G.o⟩
   .have e2:((ls.length:Int)+1 == 16)=false:=by simp;omega
    obtain⟨L,TM,a⟩:=G.o;have Q:=bL (pE g y s L _ 10 W5 a.rb o_);have O:=bL a;clear a;by_cases a:Pu.dN s y=10;rw[if_pos a,dt_ a]at Q;have zl:y<s.size:=Pu.fK (s:=s) (i:=y) (by rw[a];decide);have Y2:Hid (∀F,uk s (y+1) (ls++[x]) F->uk s 0 [] F):=fun F h2=>A.o.yes _ (.more H.o a o_ h2);have J:Hid (∀F,xF s (y+1) (ls++[x]).length F->xF s 0 0 F):=fun F h2=>A.o.no _ (.more H.o a o_ (by simpa using h2));rotate_left;rw[if_neg a,dn_ a]at Q;have F:Hid (xF s 0 0 y):=A.o.no _ (.full H.o K (.inr a));rotate_left;all_goals
     clear A H a;go_wp2_with fail;refine Q.o.mono ?_;clear Q;rintro e w6 ⟨rfl,Q,zL⟩
    .have a:=O.o.rk Q;have J6:Hid (LnI B g s w (y+1) (ls++[x]) (.slice a4 (ls.length+1) c4) w6):=⟨L5.o.rk a,⟨_,L,TM,O.o.fD Q zL⟩,S.o.trans a,zl,Nat.le_succ_of_le q.o,Y2.o,J.o,by simp;omega⟩;clear Q zL a L5 S G O q;go_wp2;go_roundg (s.size-(y+1));exact⟨y+1,ls++[x],rfl,J6.o⟩;omega
    .have a:=bL (S.o.trans (O.o.rk Q));have R6:=bL (show I8 B g s y _ _ w6 from ⟨L,TM,O.o.fD Q zL⟩);clear Q zL L5 S G O q;go_wp2;go_ret2;exact .inr ⟨_,_,_,F.o,rfl,a.o,R6.o⟩
theorem Lm.get{W:W_}{ls:List aD}(h:Lm B W v ls){k:Nat}{x:aD}(b:ls[k]?=some x) :
  ∃g a c l f d p i,v=s_ g ls.length a/\W.rangeAt g (k*8) (lC (x,.slice c l f,.slice d p i))/\fe W (.slice c l f) x.pt.first/\fe W (.slice d p i) x.pt.last:=by
 obtain⟨s,A,C,G⟩:=h;have e:ls.length=s.length:=by rw[<-C,lm_]
 rw[<-C,gm_]at b;cases hq:s[k]? with
 | none=>rw[hq]at b;cases b
 | some q=>
  rw[hq]at b;simp only[Option.map_some,Option.some.injEq]at b;subst b;obtain⟨⟨c,l,f,y⟩,⟨d,p,i,z⟩,n1,I⟩:=G q (mg_ hq);have J:k<s.length:=(ge_.1 hq).1;obtain⟨g,a,F,_,_⟩:=dL A o_;subst F;refine⟨g,a,c,l,f,d,p,i,by rw[e],?_,by rw[<-y];exact n1,by rw[<-z];exact I⟩;intro j u r;have H:j<8:=(ge_.1 r).1;have D:=aeC hq H;have E:q=(q.1,.slice c l f,.slice d p i):=by rw[<-y,<-z]
  rw[<-E]at r;rw[r]at D;exact bV A D
theorem sN:(prog.info? 129).map (·.size)=some 8:=k_
namespace Pu
def yV(h:Int)(x:aD):Int:=if (if h<x.mode then x.mode else h)<x.md then x.md else if h<x.mode then x.mode else h
def mH(ls:List aD):Int:=ls.foldl yV 0+1
end Pu
theorem Fw(B:Nat)(v:V_)(ls:List aD)(w:W_)(h:Lm B w v ls)(G:ls.length<=1000)(D:∀x∈ls,0<=x.mode/\x.mode<=1000/\0<=x.md/\x.md<=1000) :
  Calls prog 92 #[v] w (mY (I_ (mH ls)) w):=by
 have C:=h.len;obtain⟨Y,Z,rfl,R,S⟩:=C;have E:=bL h;have F:=bL D;clear h D;go_in;go_wp2_with fail;go_loopg [3,5,8] ls.length (fun gk C _ b c=>∃(k:Nat) (a:Int),k<=ls.length/\gk=ls.length-k/\C=I_ a/\b=I_ k/\0<=a/\a<=1000/\(ls.drop k).foldl Pu.yV a=ls.foldl Pu.yV 0/\B_ w c);exact⟨0,0,zl_ _,rfl,rfl,rfl,o_,o_,rfl,Br_ _ _⟩;obtain⟨k,a,kl,rfl,rfl,rfl,Q,yV,c,b⟩:=hrel;have i:=bL c;have f:=bL b;clear c b;by_cases z:k<ls.length
 .have J:=oL k ls.length;obtain⟨x,r⟩:=rG ls k z;have A:=F.o x (mg_ r);have DR:Hid ((ls.drop (k+1)).foldl Pu.yV (Pu.yV a x)=ls.foldl Pu.yV 0):=by have:=i.o;rw[List.drop_eq_getElem?_toList_append,r]at this;exact this
  clear i;obtain⟨g,I,e,s,p,j,u,q,O,d,_,_⟩:=(E.o.below f.o).get r;cases O;have T:=kZ k;have V:=jJ k;have U:(k:Int)<ls.length:=o_;have b:=bL (f.o.alloc f.o.size (c_ (lC (x,.slice e s p,.slice j u q)).toArray 129));have c:Hid (dh (wr.alloc (c_ (lC (x,.slice e s p,.slice j u q)).toArray 129)) wr.heap.size 129 (lC (x,.slice e s p,.slice j u q))):=hn_ _ _;have l:=bL d;clear d r;obtain⟨d,L,H,md,⟨N,fi,la⟩,dn⟩:=x;simp only[lC]at b c l;simp only at A;go_upto_region 5 with (refine wl_ rfl 129 (.tmp 10) rfl g (k*8) rfl _ _ l.o underlying129 rfl sN ?_);have x0:=bQ 0 c.o rfl;have x3:=bQ 3 c.o rfl;clear l c;generalize wr.alloc (c_ #[I_ d,I_ L,I_ H,I_ md,.bool N,.slice e s p,.slice j u q,.bool dn] 129)=X at *;simp only[Pu.yV]at DR;by_cases l:a<d
  .have K:decide (a<d)=true:=dt_ l;rw[if_pos l]at DR;by_cases c:d<md
   .have y:decide (d<md)=true:=dt_ c;rw[if_pos c]at DR;go_wp2;go_roundg (ls.length-(k+1));exact⟨k+1,md,o_,rfl,rfl,by go_num,o_,o_,DR.o,b.o⟩;omega
   .have y:decide (d<md)=false:=dn_ c;rw[if_neg c]at DR;go_wp2;go_roundg (ls.length-(k+1));exact⟨k+1,d,o_,rfl,rfl,by go_num,o_,o_,DR.o,b.o⟩;omega
  .have K:decide (a<d)=false:=dn_ l;rw[if_neg l]at DR;by_cases c:a<md
   .have y:decide (a<md)=true:=dt_ c;rw[if_pos c]at DR;go_wp2;go_roundg (ls.length-(k+1));exact⟨k+1,md,o_,rfl,rfl,by go_num,o_,o_,DR.o,b.o⟩;omega
   .have y:decide (a<md)=false:=dn_ c;rw[if_neg c]at DR;go_wp2;go_roundg (ls.length-(k+1));exact⟨k+1,a,o_,rfl,rfl,by go_num,o_,o_,DR.o,b.o⟩;omega
 .have J:=nI k ls.length;have e:k=ls.length:=o_;have T:=yL (a+1);have b:Hid (mH ls=a+1):=by have:=i.o;rw[e,List.drop_length]at this;unfold mH;rw[<-this];rfl
  clear i e;go_wp2;go_ret;exact⟨by rw[b.o];rfl,f.o⟩
def aac(w:W_)(e:Ending)(w':W_):Prop:=e=.returned (.bool true)/\B_ w w'
theorem Qh(q r:V_)(l:List Int)(w:W_)(g:om w q l)(j:om w r l) :
  Calls prog 62 #[q,r] w (aac w):=by
 obtain⟨F,H,rfl,y,z,s⟩:=g.read;obtain⟨G,I,rfl,A,C,u⟩:=j.read;clear g j;go_in;go_wp2_with fail;go_loopw [5] (fun i wr=>∃k:Nat,k<=l.length/\i=I_ k/\B_ w wr) (fun i _=>l.length-(intOf i).toNat);exact⟨0,zl_ _,rfl,Br_ _ _⟩;obtain⟨k,L,rfl,a⟩:=hrel;by_cases b:k<l.length
 .obtain⟨i,D,rfl,c,e⟩:=s k b;obtain⟨x,E,rfl,d,f⟩:=u k b;have J:=(a.cell (p:=(a_ i (D+k))) c).trans e;have K:=(a.cell (p:=(a_ x (E+k))) d).trans f;clear e f s u;generalize Pu.aU l k=e at *;go_wp2_with fail;go_quiet (fail);go_wp2;go_roundw;case rel=>exact⟨k+1,o_,by go_num,bd_ a _⟩
  case measure=>simp[intOf];omega
 .go_wp2;go_ret;exact⟨rfl,a⟩
theorem Mx(A C:V_)(l:List mg)(w:W_)(y:jX w A l)(z:jX w C l) :
  Calls prog 63 #[A,C] w (aac w):=by
 obtain⟨J,L,rfl,F,G,D⟩:=y.read;obtain⟨K,N,rfl,H,I,E⟩:=z.read;clear y z;go_in;go_wp2_with fail;go_loopw [5] (fun i wr=>∃k:Nat,k<=l.length/\i=I_ k/\B_ w wr) (fun i _=>l.length-(intOf i).toNat);exact⟨0,zl_ _,rfl,Br_ _ _⟩;obtain⟨k,V,rfl,a⟩:=hrel;by_cases d:k<l.length
 .obtain⟨e,g,rfl,b,j,q,r⟩:=D k d;obtain⟨f,i,rfl,c,s,u,x⟩:=E k d;have O:=(a.cell (p:=(a_ e (g+k*3))) b).trans j;have S:=(a.cell (p:=(a_ f (i+k*3))) c).trans s;have Q:=(a.cell (p:=(a_ e (g+k*3+1))) b).trans q;have T:=(a.cell (p:=(a_ f (i+k*3+1))) c).trans u;have R:=(a.cell (p:=(a_ e (g+k*3+2))) b).trans r;have U:=(a.cell (p:=(a_ f (i+k*3+2))) c).trans x;clear j q r s u x D E;generalize (Pu.rg l k).emit=j at *;generalize (Pu.rg l k).act=q at *;generalize (Pu.rg l k).mode=r at *;go_wp2_with fail;go_quiet (fail);go_wp2;go_roundw;case rel=>exact⟨k+1,o_,by go_num,bd_ a _⟩
  case measure=>simp[intOf];omega
 .go_wp2;go_ret;exact⟨rfl,a⟩
theorem Qg(D E:V_)(l:List ed)(w:W_)(A:Code w D l)(C:Code w E l) :
  Calls prog 64 #[D,E] w (aac w):=by
 obtain⟨L,O,rfl,H,I,F⟩:=A.read;obtain⟨N,Q,rfl,J,K,G⟩:=C.read;clear A C;go_in;go_wp2_with fail;go_loopw [5] (fun i wr=>∃k:Nat,k<=l.length/\i=I_ k/\B_ w wr) (fun i _=>l.length-(intOf i).toNat);exact⟨0,zl_ _,rfl,Br_ _ _⟩;obtain⟨k,hk,rfl,a⟩:=hrel;by_cases d:k<l.length
 .obtain⟨e,g,rfl,b,j,q,r,s⟩:=F k d;obtain⟨f,i,rfl,c,u,x,y,z⟩:=G k d;have R:=(a.cell (p:=(a_ e (g+k*4))) b).trans j;have V:=(a.cell (p:=(a_ f (i+k*4))) c).trans u;have S:=(a.cell (p:=(a_ e (g+k*4+1))) b).trans q;have X:=(a.cell (p:=(a_ f (i+k*4+1))) c).trans x;have T:=(a.cell (p:=(a_ e (g+k*4+2))) b).trans r;have Y:=(a.cell (p:=(a_ f (i+k*4+2))) c).trans y;have U:=(a.cell (p:=(a_ e (g+k*4+3))) b).trans s;have Z:=(a.cell (p:=(a_ f (i+k*4+3))) c).trans z;clear j q r s u x y z F G;generalize (Pu.aO l k).op=j at *;generalize (Pu.aO l k).a=q at *;generalize (Pu.aO l k).b=r at *;generalize (Pu.aO l k).bH=s at *;go_wp2_with fail;go_quiet (fail);go_wp2;go_roundw;case rel=>exact⟨k+1,o_,by go_num,bd_ a _⟩
  case measure=>simp[intOf];omega
 .go_wp2;go_ret;exact⟨rfl,a⟩
end Go.Proofs.YtmccnmgaoppogabGreat
