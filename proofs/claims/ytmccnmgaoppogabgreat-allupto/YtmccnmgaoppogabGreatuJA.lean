import Derived.Test.YtmccnmgaoppogabGreatuKaw
namespace Go.Proofs.YtmccnmgaoppogabGreat
open Pu
set_option linter.all false
open Go.Proofs.Tryz Tryz
set_option maxRecDepth 100000
set_option maxHeartbeats 8000000
open Go.RowKit
variable {W w:W_} {cap:Nat}
theorem Iz(B n:Nat)(v H:V_)(ls:List aD)(t:List Nat)(w:W_)(h:Lm B w v ls)(F:fe w H t)(hl:ls.length<=1000)(hn:n<=1000)(c:∀x∈ls,nO n x.pt)(S:t.length<=1000) :
  Calls prog 69 #[v,H] w (mY (I_ (gX ls t)) w):=by
 obtain⟨av,cv,rfl,T,U⟩:=h.len;have I:=bL h;have J:=bL F;have K:=bL c;clear h c F;go_in;go_wp2_with fail;go_loopg [5,6,9] ls.length (fun gk _ _ a b=>∃(k:Nat),k<=ls.length/\gk=ls.length-k/\a=I_ k/\lq t (ls.drop k) k=gX ls t/\B_ w b);exact⟨0,zl_ _,rfl,rfl,rfl,Br_ _ _⟩;obtain⟨k,kl,rfl,rfl,b,a⟩:=hrel;have i:=bL b;have f:=bL a;clear b a;by_cases D:k<ls.length
 .have N:=oL k ls.length;obtain⟨x,s⟩:=rG ls k D;have d:=K.o x (mg_ s);have DR:Hid ((if Pu.meet x.pt.last t=true then (k:Int) else lq t (ls.drop (k+1)) (k+1))=gX ls t):=by have:=i.o;rw[List.drop_eq_getElem?_toList_append,s]at this;exact this
  clear i;obtain⟨g,cap,j,u,p,l,y,r,R,E,n1,G⟩:=(I.o.below f.o).get s;cases R;have wi:=kZ k;have OM:=jJ k;have Z:(k:Int)<ls.length:=o_;have a:=(Br_ wr.heap.size wr).alloc dF (c_ (lC (x,.slice j u p,.slice l y r)).toArray 129);have b:=bL (ja f.o a);have e:Hid (dh (wr.alloc (c_ (lC (x,.slice j u p,.slice l y r)).toArray 129)) wr.heap.size 129 (lC (x,.slice j u p,.slice l y r))):=hn_ _ _;have A:=bL (G.below a);have C:=bL ((J.o.below f.o).below a);have z:=bL E;have Y:=d.2.len;clear E s n1 G a d;obtain⟨V,O,L,md,⟨Q,fi,E⟩,dn⟩:=x;simp only[lC]at b e z A C;simp only at Y DR;go_upto_region 4 with (refine wl_ rfl 129 (.tmp 12) rfl g (k*8) rfl _ _ z.o underlying129 rfl sN ?_);have X:=bQ 6 e.o rfl;clear z e;generalize wr.alloc (c_ #[I_ V,I_ O,I_ L,I_ md,.bool Q,.slice j u p,.slice l y r,.bool dn] 129)=G at *;go_wp2_with fail;refine (abU _ _ E t G A.o C.o o_ o_).mono ?_;rintro e w3 ⟨rfl,a⟩;have z:=bL (ja b.o a);clear a b A C X;cases hm:Pu.meet E t with
  | true=>
   have a:Hid (gX ls t=(k:Int)):=by have:=DR.o;rw[if_pos hm]at this;exact this.symm
   clear DR hm;go_wp2;go_ret;exact⟨by rw[a.o];rfl,z.o⟩
  | false=>
   have a:Hid (lq t (ls.drop (k+1)) (k+1)=gX ls t):=by have:=DR.o;rw[if_neg (by rw[hm];simp)]at this;exact this
   clear DR hm;go_wp2;go_roundg (ls.length-(k+1));exact⟨k+1,o_,rfl,by go_num,a.o,z.o⟩;omega
 .have N:=nI k ls.length;have e:k=ls.length:=o_;have a:Hid (gX ls t=-1):=by have:=i.o;rw[e,List.drop_length]at this;exact this.symm
  clear i e;go_wp2;go_ret;exact⟨by rw[a.o];rfl,f.o⟩
theorem rC.get{B:Nat}{v:V_}{ss:List Pu.aN}(h:rC B W v ss){k:Nat}{x:Pu.aN}(b:ss[k]?=some x) :
  ∃d cap a n c,v=s_ d ss.length cap/\W.rangeAt d (k*257) (oP (x,.slice a n c))/\fe W (.slice a n c) x.places/\x.longer.length=256:=by
 obtain⟨i,p,r,z,e⟩:=h;have C:i.length=ss.length:=by rw[<-r,lm_]
 rw[<-r,gm_]at b;cases hq:i[k]? with
 | none=>rw[hq]at b;cases b
 | some q=>
  rw[hq]at b;simp only[Option.map_some,Option.some.injEq]at b;subst b;have f:=mg_ hq;have n1:=z q f;obtain⟨a,c,l,_⟩:=n1.form;have D:k<i.length:=(ge_.1 hq).1;obtain⟨d,cap,y,_,_⟩:=dL p o_;subst y;have t:q=(q.1,.slice a q.1.places.length c):=by rw[<-l]
  refine⟨d,cap,a,q.1.places.length,c,by rw[C],?_,by rw[<-l];exact n1,e q f⟩;intro j u g;rw[<-t]at g;have A:j<257:=by have:=(ge_.1 g).1;rwa[mU (e q f)]at this
  have s:=VO e hq A;rw[g]at s;exact bV p s
theorem rC.aeD{B:Nat}{d n:Nat}{ss:List Pu.aN}(h:rC B W (s_ d n cap) ss){k:Nat}{x:Pu.aN}(g:ss[k]?=some x):W.rangeAt d (k*257+1) (bZ x.longer)/\x.longer.length=256/\n=ss.length:=by
 obtain⟨f,b,a,r,c,e,l,_,i⟩:=h.get g;cases e;refine⟨fun j u p=>?_,i,rfl⟩;have:=l (1+j) u (by unfold oP;rw[Nat.add_comm,cs_];exact p);rwa[<-Nat.add_assoc]at this
def agu(v:V_)(w:W_)(e:Ending)(w':W_):Prop:=e=.returned v/\∃m,w'=w.drewN m
theorem yw(h:∃m,W=w.drewN m):B_ w W:=by obtain⟨m,rfl⟩:=h;exact bd_ (Br_ _ _) m
theorem yx(h:∃m,W=w.drewN m)(n:Nat):∃m,W.drewN n=w.drewN m:=by obtain⟨m,rfl⟩:=h;exact⟨m+n,World.drewN_drewN ..⟩
theorem GY(w:W_):∃m,w=w.drewN m:=⟨0,rfl⟩
theorem zA(cs:Array V_)(i:Nat)(v:V_)(a:i<256)(b:cs[i]?=some v)(w:W_):(Instr.index 161 (.agg cs) (I_ i)).run prog w=.ok v w:=by simp[Instr.index,run_underlying underlying161,asIntOf,a,b,go_sem]
theorem IE(B S a b r n cap:Nat)(vr vk:V_)(ss:List Pu.aN)(d:List Nat)(x y:Pu.aN)(w:W_)(F:dh w S 160 [s_ r n cap,vr])(v:rC B w (s_ r n cap) ss)(E:fe w vk d)(A:ss[a]?=some x)(C:ss[b]?=some y)(l:∀z∈ss,∀n∈z.longer,n<d.length)(_hl:ss.length<=1000)(hkl:d.length<=1000) :
  Calls prog 145 #[p_ S,I_ a,I_ b,vk] w (agu (.bool (pI ss d a b 256)) w):=by
 obtain⟨f,xl,rfl⟩:=v.aeD A;obtain⟨c,yl,_⟩:=v.aeD C;obtain⟨ak,ck,rfl,_,_,_⟩:=E.form;have al:=(ge_.1 A).1;have bl:=(ge_.1 C).1;have ia0:=jJ a;have ia1:(a:Int)<ss.length:=o_;have ib0:=jJ b;have ib1:(b:Int)<ss.length:=o_;have Q:=bQ 0 F rfl;have e:=bL f;go_in;go_upto_region 2 with (refine wl_ rfl 161 (.tmp 17) rfl r (a*257+1) rfl _ _ e.o underlying161 rfl (by rw[iE,xl];kernel_rfl) ?_);have J:=bL F;have Z:=bL v;have X:=bL E;have L:=bL l;have K:=bL A;have D:=bL C;have Y:=bL c;clear F v E l A C f c e Q;go_loopg [9,10,19] 256 (fun gk _ _ e f=>∃(c:Nat),c<=256/\gk=256-c/\e=I_ c/\(∃m,f=w.drewN m)/\∀i,i<c->d.getD (qW ss a i) 0=d.getD (qW ss b i) 0);exact⟨0,zl_ _,rfl,rfl,GY _,fun i g=>absurd g (Nat.not_lt_zero _)⟩;obtain⟨c,cl,rfl,rfl,e,s⟩:=hrel;have H:=bL e;have k:=yw e;clear e;have I:=bL s;by_cases T:c<256
 .have d1:decide ((c:Int)<256)=true:=dt_ o_;have wi:=kZ c;have ic0:=jJ c;have ic1:(c:Int)<256:=o_;obtain⟨p,t⟩:=rG x.longer c;obtain⟨q,u⟩:=rG y.longer c;have R:=L.o x (mg_ K.o) p (mg_ t);have U:=L.o y (mg_ D.o) q (mg_ u);have ip0:=jJ p;have ip1:(p:Int)<d.length:=o_;have iq0:=jJ q;have iq1:(q:Int)<d.length:=o_;have Q:=bQ 0 (bO J.o k (bP J.o)) rfl;obtain⟨gk,ek,_,G⟩:=(X.o.below k).some o_;subst ek;obtain⟨f,e⟩:∃z,d[p]?=some z:=⟨_,gg_ R⟩;obtain⟨j,g⟩:∃z,d[q]?=some z:=⟨_,gg_ U⟩;have k1:=G p f e;have k2:=G q j g;have y1:wr.cell? (a_ r (b*257+1+c))=some (I_ q):=((Z.o.below k).aeD D.o).1 c _ (iQ u);have V:(bZ x.longer).toArray[c]?=some (I_ p):=by rw[List.getElem?_toArray];exact iQ t
  have hix:=zA _ c _ T V;have N:Hid (qW ss a c=p):=by show _=_;unfold qW;rw[K.o];simp[gd_,t]
  have O:Hid (qW ss b c=q):=by show _=_;unfold qW;rw[D.o];simp[gd_,u]
  have GP:Hid (d.getD p 0=f/\d.getD q 0=j):=by
   refine⟨?_,?_⟩
   .rw [gd_,e];rfl
   .rw [gd_,g];rfl
  clear k s t u e g G V R U;by_cases e:f=j;have t:Hid (∀i,i<c+1->d.getD (qW ss a i) 0=d.getD (qW ss b i) 0):=fun i g=>by
   by_cases g:i=c
   .subst g;rw[N.o,O.o,GP.o.1,GP.o.2];exact e
   .exact I.o i o_
  subst e;have g:((f:Int) != (f:Int))=false:=i_;rotate_left;have R:Hid (pI ss d a b 256=false):=by show _=_;unfold pI;rw[List.all_eq_false];exact⟨c,List.mem_range.2 T,by rw[N.o,O.o,GP.o.1,GP.o.2];simpa using e⟩
  have u:((f:Int) != (j:Int))=true:=by simp;omega
  have G:((f:Int) == (j:Int))=false:=by simp;omega
  have g:¬(f:Int)=j:=o_;have U:decide ((f:Int)=j)=false:=dn_ g;rotate_left;all_goals
   clear I;go_wp2_with fail;go_quiet (fail);have dn:=bL (yx H.o nq);go_wp2
  .go_roundg (256-(c+1));exact⟨c+1,o_,rfl,by go_num,dn.o,t.o⟩;omega
  .go_ret;exact⟨by rw[R.o];rfl,dn.o⟩
 .have d1:decide ((c:Int)<256)=false:=dn_ o_;have e:c=256:=o_;have R:Hid (pI ss d a b 256=true):=by show _=_;unfold pI;rw[List.all_eq_true];intro i g;rw[decide_eq_true_eq];exact s i (by rw[e];exact List.mem_range.1 g)
  clear s k;go_wp2;go_ret;exact⟨by rw[R.o];rfl,H.o⟩
structure Md(B gm gs cap:Nat)(vr:V_)(ss:List Pu.aN)(rs:List Int)(W:W_):Prop where
 b:dh W gm 160 [s_ gs ss.length cap,vr]
 s:rC B W (s_ gs ss.length cap) ss
 r:W.ownsRow B 3 1 vr rs.length (bY rs)
 n:rs.length=ss.length
theorem Md.below{B b c cap:Nat}{d:V_}{ss:List Pu.aN}{rs:List Int}{W W':W_}(h:Md B b c cap d ss rs W)(a:B_ W W'):Md B b c cap d ss rs W':=
 ⟨bO h.b a (bP h.b),h.s.below a,bW h.r a dF,h.n⟩
namespace Pu
theorem Cg(ss:List aN)(rs:List Int)(a:List Nat)(set:Nat):∀l:List Nat,iL ss rs a set l<=l.length:=by
 intro l;induction l with
 | nil=>exact dF
 | cons o r b=>
  unfold iL;split
  .exact zl_ _
  .simp;exact b
end Pu
theorem Sl(B A N cap set:Nat)(vr vf vk:V_)(ss:List Pu.aN)(rs:List Int)(a b:List Nat)(w:W_)(s:Md B A N cap vr ss rs w)(I:fe w vf a)(O:fe w vk b)(c:set<ss.length)(p:∀o∈a,o<ss.length)(r:∀z∈ss,∀n∈z.longer,n<b.length)(hl:ss.length<=1000)(J:b.length<=1000)(Z:a.length<=1000) :
  Calls prog 131 #[p_ A,I_ set,vf,vk] w (agu (I_ (iL ss rs b set a:Nat)) w):=by
 obtain⟨af,cf,rfl,_,_,_⟩:=I.form;have U:=bL s;have S:=bL I;have T:=bL O;have D:=bL p;have V:=bL r;obtain⟨gr,cr,G,_,_⟩:=dL s.r (by rw[s.n];omega);subst G;have v:Hid (rs.length=ss.length):=s.n;clear s I O p r;go_in;go_wp2_with fail;go_loopg [9,10,13] a.length (fun gk _ _ d e=>∃(i:Nat),i<=a.length/\gk=a.length-i/\d=I_ i/\(∃m,e=w.drewN m)/\iL ss rs b set (a.drop i)+i=iL ss rs b set a);exact⟨0,zl_ _,rfl,rfl,GY _,rfl⟩;obtain⟨i,il,rfl,rfl,d,e⟩:=hrel;have E:=bL d;have k:=yw d;have u:=bL e;clear d e;by_cases hi:i<a.length
 .have X:=oL i a.length;have wi:=kZ i;have ii0:=jJ i;have ii1:(i:Int)<a.length:=o_;obtain⟨o,C⟩:=rG a i hi;have K:=D.o o (mg_ C);have j:=U.o.below k;obtain⟨gf,Y,_,L⟩:=(S.o.below k).some o_;subst Y;have f1:=L i o C;have c1:=bQ 1 j.b rfl;obtain⟨d,e⟩:∃z,rs[set]?=some z:=⟨_,gg_ (by rw[v.o];exact c)⟩;obtain⟨f,g⟩:∃z,rs[o]?=some z:=⟨_,gg_ (by rw[v.o];exact K)⟩;have r1:=bV j.r (show (bY rs)[set]?=some (I_ d) by simp[bY,e]);have r2:=bV j.r (show (bY rs)[o]?=some (I_ f) by simp[bY,g]);have is0:=jJ set;have is1:(set:Int)<rs.length:=by have:=v.o;omega
  have io0:=jJ o;have io1:(o:Int)<rs.length:=by have:=v.o;omega
  have t:Hid ((if d=f/\pI ss b set o 256=true then 0 else iL ss rs b set (a.drop (i+1))+1)+i=iL ss rs b set a):=by
   have:=u.o;rw[List.drop_eq_getElem?_toList_append,C]at this;have l:rs.getD set 0=d:=by rw[gd_,e];rfl
   have F:rs.getD o 0=f:=by rw[gd_,g];rfl
   rw[<-l,<-F];exact this
  obtain⟨x,Q⟩:=rG ss set c;obtain⟨y,R⟩:=rG ss o K;have H:Hid (∀n,C_ 145 #[p_ A,I_ set,I_ o,vk] (wr.drewN n) (agu (.bool (pI ss b set o 256)) (wr.drewN n))):=fun n=>by have l:B_ wr (wr.drewN n):=bd_ (Br_ _ _) n;have F:=j.below l;exact IE B A set o N ss.length cap _ vk ss b x y _ F.b F.s ((T.o.below k).below l) Q R V.o hl J
  clear L e g C Q R j k u K;by_cases e:d=f
  .have l:(d == f)=true:=by simp[e]
   have F:decide (d=f)=true:=dt_ e;cases ha:pI ss b set o 256 with
   | true=>?_
   | false=>?_
   have R:Hid (iL ss rs b set a=i):=by have:=t.o;rw[if_pos ⟨e,ha⟩]at this;show _=_;omega
   rotate_left;have R:Hid (iL ss rs b set (a.drop (i+1))+(i+1)=iL ss rs b set a):=by have:=t.o;rw[if_neg (by rw[ha];simp)]at this;show _=_;omega
   rotate_left;all_goals
    rw[ha]at H;clear t ha;subst e;go_wp2_with fail;go_quiet ((go_at_call 145;exact Calls.quiet_of (H.o _)));have dn:=bL (yx E.o nq);go_wp2
   .go_ret;exact⟨by rw[R.o];rfl,dn.o⟩
   .go_roundg (a.length-(i+1));exact⟨i+1,o_,rfl,by go_num,dn.o,R.o⟩;omega
  .have l:(d == f)=false:=by simp[e]
   have F:decide (d=f)=false:=dn_ e;have R:Hid (iL ss rs b set (a.drop (i+1))+(i+1)=iL ss rs b set a):=by have:=t.o;rw[if_neg (fun h=>e h.1)]at this;show _=_;omega
   clear t H;go_wp2_with fail;go_quiet (fail);have dn:=bL (yx E.o nq);go_wp2;go_roundg (a.length-(i+1));exact⟨i+1,o_,rfl,by go_num,dn.o,R.o⟩;omega
 .have X:=nI i a.length;have e:i=a.length:=o_;have R:Hid (iL ss rs b set a=a.length):=by have:=u.o;rw[e,List.drop_length]at this;have d:iL ss rs b set []=0:=rfl;show _=_;omega
  clear u k;go_wp2;go_ret;exact⟨by rw[R.o];rfl,E.o⟩
theorem vN:(prog.info? 3).map (fun i=>(i.zero,i.size,i.bytes))=some (some (I_ 0),1,8):=k_
theorem pW{b:Array Oper}{rest:List Oper}{o:Oper}{a:Act}{Q:Exit->Act->W_->Prop}(d:o.guard=none)(s x:Operand)
  (t:o.op=.call { callee:=.builtin .append,args:=#[s,x],argTypes:=#[31,31] }) (base:Nat) (v:V_) (u:List Nat) (q c:Nat) (A:a.eval s=v) (l:w.ownsRow base 3 1 v u.length (bZ u))
  (C:a.eval x=s_ c 1 1) (r:dh w c 3 [I_ q]) (F:u.length<=1000000) (E:base<=w.heap.size)
  (h:∀g cap w',w'.ownsRow base 3 1 (s_ g (u.length+1) cap) (u++[q]).length (bZ (u++[q]))->w.grownBy w' v.ownBlock->(v.ownBlock=some g\/g=w.heap.size)->wpList prog b Q rest (a.put o.dst (s_ g (u.length+1) cap)) w'):wpList prog b Q (o::rest) a w:=by
 obtain⟨D,e,f,i,k⟩:=ip_ vN;refine wpList_append_lies _ d s x 31 t base 3 D _ 1 8 underlying31 e f i k rfl d_ v u.length (bZ u) A l (a_ c 0) 1 1 [I_ q] C rfl ?_ (fun z j=>by simp at j;rw[j];rfl) d_ (by unfold maxLen;omega) o_ E _ rfl ?_
 .intro j y n;have:=bN r n;simpa [add_eq]using this
 .intro g cap w' j n p _;refine h g cap w' ?_ n p;rw[la_,xh];exact j
theorem GK{w':W_}{base e size n:Nat}{v:V_}{xs:List V_}{row:Option Nat}(h:w.ownsRow base e size v n xs)(a:∀k,v.ownBlock=some k->some k≠row)(b:w.grownBy w' row):w'.ownsRow base e size v n xs:=by
 refine⟨h.1,?_⟩;rcases h.2 with h0 | ⟨g',cap,cur,h1,h2,h3,h4⟩
 .exact .inl h0
 .refine .inr ⟨g',cap,cur,h1,h2,?_,h4⟩;rw[b.block g' (Array.getElem?_eq_some_iff.1 h3).1 (a g' (by rw[h1];rfl))];exact h3
structure Sq(B gq:Nat)(vk vf:V_)(q:iw)(W:W_):Prop where
 b:dh W gq 166 [vk,vf]
 k:W.ownsRow B 3 1 vk q.kinds.length (bZ q.kinds)
 f:W.ownsRow B 3 1 vf q.firsts.length (bZ q.firsts)
 ne:∀b,vk.ownBlock=some b->vf.ownBlock=some b->False
 lo:B<=gq
section
variable {B gq:Nat} {vk vf v2:V_} {q:iw} {W W' w2:W_}
theorem Sq.below(h:Sq B gq vk vf q W)(a:B_ W W'):Sq B gq vk vf q W':=
 ⟨bO h.b a (bP h.b),bW h.k a dF,bW h.f a dF,h.ne,h.lo⟩
theorem Sq.amH(h:Sq B gq vk vf q W){x g:Nat}(j:w2.ownsRow B 3 1 (s_ g (q.firsts.length+1) cap) (q.firsts++[x]).length (bZ (q.firsts++[x])))(i:W.grownBy w2 vf.ownBlock)(a:vf.ownBlock=some g\/g=W.heap.size) :
  Sq B gq vk (s_ g (q.firsts.length+1) cap) ⟨q.kinds,q.firsts++[x]⟩ (w2.setCell (a_ gq 1) (s_ g (q.firsts.length+1) cap)):=by
 have c:=dZ h.f h.b d_ i;have f:=gs_ w2 gq 1 (s_ g (q.firsts.length+1) cap);have k:w2.ownsRow B 3 1 vk q.kinds.length (bZ q.kinds):=GK h.k (fun b e d=>h.ne b e d.symm) i;refine⟨cK c 1 _,dG k c d_ f,dG j c d_ f,fun b e d=>?_,h.lo⟩;have eb:g=b:=oi_ d;subst eb;rcases a with a | a
 .exact h.ne g e a
 .have:=(ol_ h.k g e).2;omega
theorem Sq.adR(h:Sq B gq vk vf q W){x g:Nat}(j:w2.ownsRow B 3 1 (s_ g (q.kinds.length+1) cap) (q.kinds++[x]).length (bZ (q.kinds++[x])))(i:W.grownBy w2 vk.ownBlock)(a:vk.ownBlock=some g\/g=W.heap.size) :
  Sq B gq (s_ g (q.kinds.length+1) cap) vf ⟨q.kinds++[x],q.firsts⟩ (w2.setCell (a_ gq 0) (s_ g (q.kinds.length+1) cap)):=by
 have d:=dZ h.k h.b d_ i;have f:=gs_ w2 gq 0 (s_ g (q.kinds.length+1) cap);have k:w2.ownsRow B 3 1 vf q.firsts.length (bZ q.firsts):=GK h.f (fun b e c=>h.ne b c.symm e) i;refine⟨cK d 0 _,dG j d d_ f,dG k d d_ f,fun b e c=>?_,h.lo⟩;have eb:g=b:=oi_ e;subst eb;rcases a with a | a
 .exact h.ne g a c
 .have:=(ol_ h.f g c).2;omega
end
def Ny(q:iw)(w:W_)(e:Ending)(w':W_):Prop:=
 ∃a v2,e=.returned (.agg #[a,v2])/\B_ w w'/\w'.ownsRow w.heap.size 3 1 a q.kinds.length (bZ q.kinds)/\w'.ownsRow w.heap.size 3 1 v2 q.firsts.length (bZ q.firsts)/\∀b,a.ownBlock=some b->v2.ownBlock=some b->False
abbrev zn(W:W_)(g:Nat)(a b:V_):W_:=(W.setCell (a_ g 0) a).setCell (a_ g 1) b
theorem YX{g:Nat}{a b:V_}(h:dh W g 166 [a,b]):(loadVar 166 (a_ g 0)).run prog W=.ok (.agg #[a,b]) W:=
 run_loadVar_mid W g 0 166 [a,b] _ (eQ h) underlying166 rfl k_
theorem VR(W:W_)(g:Nat)(a b:V_):W.grownBy (zn W g a b) (some g):=(gs_ W g 0 a).trans (gs_ _ g 1 b)
theorem Qv{gq r:Nat}{vk vf:V_}{q:iw}{x y:V_}(c:B_ w W)(h:Sq w.heap.size gq vk vf q W)(b:dh W r 166 [x,y])(d:w.heap.size<=r) :
  (loadVar 166 (a_ r 0)).run prog (zn W r vk vf)=.ok (.agg #[vk,vf]) (zn W r vk vf)/\Ny q w (.returned (.agg #[vk,vf])) (zn W r vk vf):=by
 have a:=VR W r vk vf;exact⟨YX (cK (cK b 0 vk) 1 vf),vk,vf,rfl,c.grown a c.size (fun k e=>by cases e;exact d),dG h.k b d_ a,dG h.f b d_ a,h.ne⟩
namespace Pu
theorem tC(ss:List aN)(rs:List Int)(a:List Nat)(n:Nat):fZ ss rs a (n+1)=FQ ss rs a (fZ ss rs a n) n:=by unfold fZ;rw[List.range_succ,List.foldl_append];rfl
theorem vJ(ss:List aN)(rs:List Int)(a:List Nat):∀n,(fZ ss rs a n).kinds.length=n/\(fZ ss rs a n).firsts.length<=n/\∀o∈(fZ ss rs a n).firsts,o<n:=by
 intro n;induction n with
 | zero=>exact⟨rfl,dF,fun o c=>by simp[fZ]at c⟩
 | succ n g=>
  obtain⟨e,f,d⟩:=g;rw[tC];unfold FQ;refine⟨by simp[e],?_,fun o c=>?_⟩
  .show (if _ then _ else _:List Nat).length<=_;split
   .simp;exact f
   .omega
  .have b:o∈(if iL ss rs a n (fZ ss rs a n).firsts=(fZ ss rs a n).firsts.length then (fZ ss rs a n).firsts++[n] else (fZ ss rs a n).firsts):=c;split at b
   .rcases ma_.1 b with k | k
    .have:=d o k;omega
    .simp at k;omega
   .have:=d o b;omega
end Pu
theorem WV(B gm gs cap:Nat)(vr vk:V_)(ss:List Pu.aN)(rs:List Int)(a:List Nat)(w:W_)(hm:Md B gm gs cap vr ss rs w)(hk:fe w vk a)(D:∀z∈ss,∀n∈z.longer,n<a.length)(hl:ss.length<=1000)(hkl:a.length<=1000) :
  Calls prog 98 #[p_ gm,vk] w (Ny (fZ ss rs a ss.length) w):=by
 have d:B_ w ((w.alloc (c_ #[n_,n_] 166)).alloc (c_ #[n_,n_] 166)):=(kM _).alloc i_ _;have HM:=bL hm;have HK:=bL hk;have Ku:=bL D;have x:=bQ 0 (hm.below d).b rfl;have r:Hid (dh ((w.alloc (c_ #[n_,n_] 166)).alloc (c_ #[n_,n_] 166)) w.heap.size 166 [n_,n_]):=cO (hn_ _ _) _;have l:Hid (Sq w.heap.size (w.heap.size+1) n_ n_ ⟨[],[]⟩ ((w.alloc (c_ #[n_,n_] 166)).alloc (c_ #[n_,n_] 166))):=by have k:=hn_ (w.alloc (c_ #[n_,n_] 166)) (c_ #[n_,n_] 166);rw[wa_]at k;exact⟨k,iR _ _ _ _,iR _ _ _ _,fun b e=>(by cases e),o_⟩
 have e:=bL d;clear hm hk D d;go_in;go_wp2_with fail;clear x;go_loopg [6,7,14] ss.length (fun gk _ _ d b=>∃(k:Nat) (v1 v2:V_),k<=ss.length/\gk=ss.length-k/\d=I_ k/\B_ w b/\dh b w.heap.size 166 [n_,n_]/\Sq w.heap.size (w.heap.size+1) v1 v2 (fZ ss rs a k) b);exact⟨0,_,_,zl_ _,rfl,rfl,e.o,r.o,l.o⟩;clear e r l;obtain⟨k,v1,v2,kl,rfl,rfl,R,I,x⟩:=hrel;have G:=bL (vJ ss rs a k);generalize hF:fZ ss rs a k=F at *;have HF:=bL hF;clear hF;obtain⟨a1,c1,rfl,_,_⟩:=eO x.k;obtain⟨a2,c2,rfl,_,_⟩:=eO x.f;by_cases D:k<ss.length
 .have d1:=oL k ss.length;have wi:=kZ k;have H:=bQ 1 x.b rfl;have b:=bL (Sl B gm gs cap k vr _ vk ss rs F.firsts a wr (HM.o.below R) (dH x.f (zl_ _)) (HK.o.below R) D (fun o d=>by have:=G.o.2.2 o d;omega) Ku.o hl hkl (by have:=G.o.2.1;omega));have r:=bL R;have y:=bL I;have A:=bL x;clear R I x;go_wp2_with fail;refine b.o.mono ?_;clear b H;rintro e l ⟨rfl,d⟩;have b:B_ wr l:=yw d;have u:=bL (r.o.trans (b.mono r.o.size));have v:=bL (bO y.o b (bP y.o));have g:=bL (A.o.below b);clear d b r y A;have NX:Hid (fZ ss rs a (k+1)=⟨F.kinds++[iL ss rs a k F.firsts],if iL ss rs a k F.firsts=F.firsts.length then F.firsts++[k] else F.firsts⟩):=by show _=_;rw[tC,HF.o];rfl
  have KL:=Cg ss rs a k F.firsts;generalize iL ss rs a k F.firsts=O at *;by_cases ek:O=F.firsts.length;focus
   rw[if_pos ek]at NX;have g1:=bQ 1 g.o.b rfl;subst ek;have r:B_ l (l.alloc (c_ #[I_ k] 3)):=kM _;have b:=bL (g.o.below r);have y:=bL (bO v.o r (bP v.o));have d:=bL (u.o.trans (r.mono u.o.size));have Q:=bQ 0 g.o.b rfl;have H:=bQ 1 g.o.b rfl;have s:=bQ 0 b.o.b rfl;have t:=bQ 1 b.o.b rfl;have LN1:F.firsts.length<=1000000:=by have:=G.o.1;have:=G.o.2.1;omega
   have A:Hid (w.heap.size<=(l.alloc (c_ #[I_ k] 3)).heap.size):=d.o.size;clear g v u r;go_upto_region 8 with (at_builtin;go_must (refine pW rfl (.tmp 29) (.tmp 31) rfl w.heap.size _ F.firsts k l.heap.size rfl b.o.f rfl (hn_ _ _) LN1 A.o ?_);intro N L E J f c;have p:=dZ b.o.f b.o.b d_ f;have Z:=bN (j:=1) p rfl;have z8:=bM p 1);have T:=bL (Sq.amH b.o J f c);have C:=gs_ E (w.heap.size+1) 1 (s_ N (F.firsts.length+1) L);have i:=dZ b.o.f y.o d_ f;have R8:=bL (bR i C (fun e=>by have:=oi_ e;omega));have r:B_ w E:=d.o.grown f d.o.size (fun K e=>(ol_ b.o.f K e).1);have S:=bL (r.grown C r.size (fun K e=>by cases e;omega));clear p Z z8 J f c C i r b y d A Q H s t;generalize E.setCell (a_ (w.heap.size+1) 1) (s_ N (F.firsts.length+1) L)=w9 at *;have u:=bL S.o;have v:=bL R8.o;have g:=bL T.o;clear S R8 T g1;generalize w9=l at *;generalize N=g7 at *;generalize L=c7 at *;have d:B_ l (l.alloc (c_ #[I_ F.firsts.length] 3)):=kM _;have b:=bL (g.o.below d);have U:=bL (bO v.o d (bP v.o));have y:=bL (u.o.trans (d.mono u.o.size));have Q:=bQ 0 g.o.b rfl;have H:=bQ 1 g.o.b rfl;have s:=bQ 0 b.o.b rfl;have t:=bQ 1 b.o.b rfl;have LN2:F.kinds.length<=1000000:=by have:=G.o.1;have:=G.o.2.1;omega
   have X:Hid (w.heap.size<=(l.alloc (c_ #[I_ F.firsts.length] 3)).heap.size):=y.o.size;clear g v u d;go_upto_region 9 with (at_builtin;go_must (refine pW rfl (.tmp 35) (.tmp 37) rfl w.heap.size _ F.kinds F.firsts.length l.heap.size rfl b.o.k rfl (hn_ _ _) LN2 X.o ?_);intro N L E J f c;have p:=dZ b.o.k b.o.b d_ f;have Z:=bN (j:=0) p rfl;have z8:=bM p 0);have T:=bL (Sq.adR b.o J f c)
  rotate_left;focus
   rw[if_neg ek]at NX;have g1:=bQ 1 g.o.b rfl;have e1:((O:Int) == (F.firsts.length:Int))=false:=by simp;omega
   have e2:¬(O:Int)=F.firsts.length:=o_;have e3:decide ((O:Int)=F.firsts.length)=false:=dn_ e2;have r:B_ l (l.alloc (c_ #[I_ O] 3)):=kM _;have d:=bL (g.o.below r);have V:=bL (bO v.o r (bP v.o));have A:=bL (u.o.trans (r.mono u.o.size));have Q:=bQ 0 g.o.b rfl;have H:=bQ 1 g.o.b rfl;have s:=bQ 0 d.o.b rfl;have t:=bQ 1 d.o.b rfl;have LN3:F.kinds.length<=1000000:=by have:=G.o.1;have:=G.o.2.1;omega
   have Y:Hid (w.heap.size<=(l.alloc (c_ #[I_ O] 3)).heap.size):=A.o.size;clear g v u r;go_upto_region 9 with (at_builtin;go_must (refine pW rfl (.tmp 35) (.tmp 37) rfl w.heap.size _ F.kinds O l.heap.size rfl d.o.k rfl (hn_ _ _) LN3 Y.o ?_);intro N L E J f c;have p:=dZ d.o.k d.o.b d_ f;have Z:=bN (j:=0) p rfl;have z8:=bM p 0);have T:=bL (Sq.adR d.o J f c)
  rotate_left;all_goals
   have C:=gs_ E (w.heap.size+1) 0 (s_ N (F.kinds.length+1) L)
  have i:=dZ b.o.k U.o d_ f;rotate_left;have i:=dZ d.o.k V.o d_ f;rotate_left;all_goals
   have R8:=bL (bR i C (fun e=>by have:=oi_ e;omega))
  have r:B_ w E:=y.o.grown f y.o.size (fun K e=>(ol_ b.o.k K e).1);have S:=bL (r.grown C r.size (fun K e=>by cases e;omega));clear p Z z8 J f c C i r b U y X Q H s t;rotate_left;focus
   have r:B_ w E:=A.o.grown f A.o.size (fun K e=>(ol_ d.o.k K e).1);have S:=bL (r.grown C r.size (fun K e=>by cases e;omega));clear p Z z8 J f c C i r d V A Y Q H s t
  all_goals
   generalize E.setCell (a_ (w.heap.size+1) 0) (s_ N (F.kinds.length+1) L)=w9 at *;go_wp2;go_roundg (ss.length-(k+1));exact⟨k+1,_,_,o_,rfl,by go_num,S.o,R8.o,by rw[NX.o];exact T.o⟩;omega
 .have d1:=nI k ss.length;have e:k=ss.length:=o_;have b:=bL (Qv R x I dF);have d:Hid (fZ ss rs a ss.length=F):=by rw[<-e];exact HF.o
  have l:Hid (Ny (fZ ss rs a ss.length) w (.returned (.agg #[.slice a1 F.kinds.length c1,.slice a2 F.firsts.length c2])) (zn wr w.heap.size (.slice a1 F.kinds.length c1) (.slice a2 F.firsts.length c2))):=by rw[d.o];exact b.o.2
  have Q:=bQ 0 x.b rfl;have H:=bQ 1 x.b rfl;have A:=bQ 0 I rfl;have E:=bQ 1 I rfl;have r:=bM I 0;have y:=bM I 1;clear R x I e;go_wp2;exact br_ (by simp[results,results98,asAddr,b.o.1]) rfl l.o
theorem abT(n:Nat):madeCells (I_ 0).cells (n*1)=(List.replicate n (I_ 0)).toArray:=by unfold madeCells;refine Array.ext i_ (fun i a b=>?_);simp[Value.cells,Nat.mod_one]
theorem Ps(n:Nat)(e:n<=100000)(w:W_):(Instr.makeSlice 31 (I_ n) (I_ n)).run prog w=.ok (s_ w.heap.size n n) (w.alloc (c_ (Array.replicate n (I_ 0)) 3)):=by obtain⟨i,a,b,c,d⟩:=ip_ vN;have:=run_make (P:=prog) w 31 3 i (I_ 0) underlying31 a b .i64 .i64 (n:Int) (n:Int) o_ (Int.le_refl _) (by rw[d];omega) o_;rw[this,c,tn_,abT];rfl
theorem Ti(W:W_)(n:Nat)(a:n<=100000):fe (W.alloc (c_ (Array.replicate n (I_ 0)) 3)) (s_ W.heap.size n n) (List.replicate n 0):=by unfold fe;rw[lp_];refine⟨by simp[bZ],.inr ⟨W.heap.size,n,Array.replicate n (I_ 0),rfl,zl_ _,hn_ W _,dF,by unfold maxLen;omega,i_,?_⟩⟩;simp[bZ]
structure Sr(w:W_)(r gq:Nat)(q:iw)(vk vf:V_)(W:W_):Prop where
 be:B_ w W
 aY:dh W r 166 [n_,n_]
 b:dh W gq 166 [vk,vf]
 k:fe W vk q.kinds
 f:∃a c,vf=.slice a q.firsts.length c
 lo:w.heap.size<=gq
theorem Sr.below{w:W_}{r gq:Nat}{q:iw}{vk vf:V_}{W W':W_}(h:Sr w r gq q vk vf W)(a:B_ W W'):Sr w r gq q vk vf W':=
 ⟨h.be.trans (a.mono h.be.size),bO h.aY a (bP h.aY),bO h.b a (bP h.b),h.k.below a,h.f,h.lo⟩
theorem acA(B C I cap:Nat)(J:V_)(ss:List Pu.aN)(rs:List Int)(w:W_)(D:Md B C I cap J ss rs w)(r:∀z∈ss,∀n∈z.longer,n<ss.length)(R:ss.length<=1000) :
  Calls prog 70 #[p_ C] w (Ny (oK ss rs) w):=by
 have b:=Ps ss.length o_;have a:B_ w (w.alloc (c_ #[n_,n_] 166)):=kM _;have N:=bL D;have O:=bL r;have d:=bQ 0 (D.below a).b rfl;have S0:Hid (Sr w w.heap.size (w.heap.size+1+1) ⟨List.replicate ss.length 0,[]⟩ (s_ (w.heap.size+1) ss.length ss.length) n_ (((w.alloc (c_ #[n_,n_] 166)).alloc (c_ (Array.replicate ss.length (I_ 0)) 3)).alloc (c_ #[s_ (w.heap.size+1) ss.length ss.length,n_] 166))):=by have n1:=Ti (w.alloc (c_ #[n_,n_] 166)) ss.length o_;rw[wa_]at n1;have c:=hn_ ((w.alloc (c_ #[n_,n_] 166)).alloc (c_ (Array.replicate ss.length (I_ 0)) 3)) (c_ #[s_ (w.heap.size+1) ss.length ss.length,n_] 166);rw[wa_,wa_]at c;refine⟨(a.alloc i_ _).alloc (by simp;omega) _,cO (cO (hn_ _ _) _) _,c,?_,⟨_,_,rfl⟩,o_⟩;exact n1.below (kM _)
 clear D r a;go_in;go_wp2_with fail;clear d b;go_loopg [4] (ss.length+1) (fun gk _ a=>∃(q:iw) (vk vf:V_) (f:Nat),gk=ss.length+1-q.firsts.length/\q.firsts.length<=ss.length/\q.kinds.length=ss.length/\ss.length+1-q.firsts.length<=f/\oh ss rs f q=oK ss rs/\Sr w w.heap.size (w.heap.size+1+1) q vk vf a);exact⟨⟨List.replicate ss.length 0,[]⟩,_,_,ss.length+1,rfl,zl_ _,i_,dF,rfl,S0.o⟩;clear S0;obtain⟨q,vk,vf,f,rfl,i,b,e,g,a⟩:=hrel;obtain⟨V,Y,rfl⟩:=a.f;obtain⟨p,rfl⟩:∃p,f=p+1:=⟨f-1,o_⟩;have j:=bQ 0 a.b rfl;have d:=bL (WV B C I cap J vk ss rs q.kinds wr (N.o.below a.be) a.k (fun z k n c=>by rw[b];exact O.o z k n c) R o_);have k:=bL a;have c:=bL g;have T:=bL b;have H:=bL i;have K:=bL e;obtain⟨U,X,rfl,_,_,_⟩:=a.k.form;clear a g b i e;go_wp2_with fail;refine d.o.mono ?_;clear d j;rintro e j ⟨v1,v2,rfl,i,E,G,ne⟩;have A:=bL (vJ ss rs q.kinds ss.length);have u:Hid ((if (fZ ss rs q.kinds ss.length).firsts.length<=q.firsts.length then fZ ss rs q.kinds ss.length else oh ss rs p (fZ ss rs q.kinds ss.length))=oK ss rs):=c.o;clear c;generalize fZ ss rs q.kinds ss.length=F at *;obtain⟨b,d,rfl,_,_⟩:=eO E;obtain⟨c,g,rfl,_,_⟩:=eO G;have t:B_ j (j.alloc (c_ #[.slice b F.kinds.length d,.slice c F.firsts.length g] 166)):=kM _;have l:Hid (dh (j.alloc (c_ #[.slice b F.kinds.length d,.slice c F.firsts.length g] 166)) j.heap.size 166 [.slice b F.kinds.length d,.slice c F.firsts.length g]):=hn_ _ _;have a:=bL ((k.o.below i).below t);have y:w.heap.size<=wr.heap.size:=k.o.be.size;have s:=bL (dH (bW E t dF) y);have x:=bL (dH (bW G t dF) y);have v:=bL ne;have L:Hid (w.heap.size<=j.heap.size):=lt_ y i.size;have S:Hid (w.heap.size+1+1≠j.heap.size/\w.heap.size≠j.heap.size):=by have Q:=bP (k.o.below i).b;exact⟨o_,o_⟩
 clear k i E G ne t;go_upto_region 3 with (fail);generalize j.alloc (c_ #[.slice b F.kinds.length d,.slice c F.firsts.length g] 166)=t at *;generalize j.heap.size=Q at *;have x0:=bQ 0 l.o rfl;have x1:=bQ 1 l.o rfl;have y1:=bQ 1 a.o.b rfl;have y0:=bQ 0 a.o.b rfl;have z0:=bQ 0 a.o.aY rfl;have z1:=bQ 1 a.o.aY rfl;have u0:=bM a.o.aY 0;have u1:=bM a.o.aY 1;have Z:=bM a.o.b 0;have t1:=bM a.o.b 1;by_cases h:F.firsts.length<=q.firsts.length
 .have G:decide ((F.firsts.length:Int)<=q.firsts.length)=true:=dt_ o_;have k:Sq w.heap.size Q (.slice b F.kinds.length d) (.slice c F.firsts.length g) F t:=⟨l.o,s.o,x.o,v.o,L.o⟩;have i:=bL (Qv a.o.be k a.o.aY dF);have E:Hid (Ny (oK ss rs) w (.returned (.agg #[.slice b F.kinds.length d,.slice c F.firsts.length g])) (zn t w.heap.size (.slice b F.kinds.length d) (.slice c F.firsts.length g))):=by rw[<-u.o,if_pos h];exact i.o.2
  clear k a l s x v u;go_wp2;exact br_ (by simp[results,results70,asAddr,i.o.1]) rfl E.o
 .have G:decide ((F.firsts.length:Int)<=q.firsts.length)=false:=dn_ o_;have i:=VR t (w.heap.size+1+1) (.slice b F.kinds.length d) (.slice c F.firsts.length g);have E:Hid (Sr w w.heap.size (w.heap.size+1+1) F (.slice b F.kinds.length d) (.slice c F.firsts.length g) (zn t (w.heap.size+1+1) (.slice b F.kinds.length d) (.slice c F.firsts.length g))):=
   ⟨a.o.be.grown i a.o.be.size (fun k e=>by cases e;omega),bR a.o.aY i (fun e=>by have:=oi_ e;omega),cK (cK a.o.b 0 _) 1 _,dG (dH s.o (zl_ _)) a.o.b d_ i,⟨_,_,rfl⟩,o_⟩
  have k:Hid (oh ss rs p F=oK ss rs):=by have:=u.o;rw[if_neg h]at this;exact this
  clear a l s x v u i;go_wp2;go_roundg (ss.length+1-F.firsts.length);exact⟨F,_,_,p,rfl,A.o.2.1,A.o.1,by have:=K.o;have:=H.o;omega,k.o,E.o⟩
  (have:=H.o;have:=A.o.2.1;omega)
end Go.Proofs.YtmccnmgaoppogabGreat
