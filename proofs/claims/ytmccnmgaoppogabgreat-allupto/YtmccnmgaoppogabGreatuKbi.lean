import Derived.Test.YtmccnmgaoppogabGreatuKbb
import Derived.Test.YtmccnmgaoppogabGreatuJC
import Derived.ProofKit
import Derived.SizedLaws
import Derived.Deep.Slices
import Derived.Deep.Strs
import Derived.Lib.SmallJoins
import Derived.JoinedCond
namespace Go.Proofs.YtmccnmgaoppogabGreat
open Pu
set_option linter.all false
open Go.Proofs.Tryz Tryz
set_option maxRecDepth 100000
set_option maxHeartbeats 8000000
open Go.RowKit
variable {fuel n:Nat} {v:V_} {s:Nat->Bool} {S:List (Nat->Bool)} {ls:List aC} {mode:Int} {cs:List V_}
theorem Ap:(prog.info? 153).map (fun i=>(i.zero,i.size,i.bytes))=some (some n_,1,24):=k_
theorem uG(a:Option Addr)(n c:Nat):Instr.fill (fun i=>some (i*1,1)) ((Array.range (1*1)).map fun j=>((n_).cells)[j % (n_).cells.size]!) [(0,.slice a n c)]=some #[.slice a n c]:=by rw[sP];rfl
abbrev sG(W:W_)(n:Nat):W_:=((W.alloc (c_ (rY n (fun _=>false)).toArray 4)).alloc (c_ #[s_ W.heap.size n n] 153)).drew
theorem jT(W:W_)(n:Nat):B_ W (sG W n):=((kM _).alloc i_ _).drew
theorem yC(W:W_)(n:Nat):Bl (sG W n) W.heap.size n (fun _=>false):=cO (hn_ W _) _
theorem aeE(n:Nat):madeCells (n_).cells (n*1)=(List.replicate n n_).toArray:=by unfold madeCells;refine Array.ext i_ (fun i a b=>?_);simp[Value.cells,Nat.mod_one]
theorem aeF(n:Nat)(e:n<=100000)(w:W_):(Instr.makeSlice 145 (I_ n) (I_ n)).run prog w=.ok (s_ w.heap.size n n) (w.alloc (c_ (Array.replicate n n_) 153)):=by obtain⟨i,a,b,c,d⟩:=ip_ Ap;have:=run_make (P:=prog) w 145 153 i n_ underlying145 a b .i64 .i64 (n:Int) (n:Int) o_ (Int.le_refl _) (by rw[d];omega) o_;rw[this,c,tn_,aeE];rfl
theorem Bb(W:W_)(n:Nat):dh (sG W n) (W.alloc (c_ (rY n (fun _=>false)).toArray 4)).heap.size 153 [s_ W.heap.size n n]:=
 hn_ (W.alloc (c_ (rY n (fun _=>false)).toArray 4)) (c_ #[s_ W.heap.size n n] 153)
structure GP(w:W_)(g r gg n:Nat)(vf:V_)(gs:List Nat)(W:W_):Prop where
 b:dh W gg 217 [p_ g,vf]
 own:W.ownsRow w.heap.size 153 1 vf gs.length (nV n gs)
 row:∀g'∈gs,Bl W g' n (fun _=>false)
 nd:gs.Nodup
 be:B_ w W
 gl:w.heap.size<=gg
 aY:dh W r 183 [n_,n_,n_]
 rl:w.heap.size<=r
 lo:∀g'∈gs,w.heap.size<=g'
section
variable {w:W_} {g r gg n:Nat} {vf:V_} {gs:List Nat} {W W':W_}
theorem GP.below(h:GP w g r gg n vf gs W)(a:B_ W W'):GP w g r gg n vf gs W':=
 ⟨bO h.b a (bP h.b),bW h.own a dF,fun b c=>bO (h.row b c) a (bP (h.row b c)),h.nd,h.be.trans (a.mono h.be.size),h.gl,bO h.aY a (bP h.aY),h.rl,h.lo⟩
theorem GP.add(h:GP w g r gg n vf gs W){p j:Nat}{w2:W_}(z:w2.ownsRow w.heap.size 153 1 (s_ p (gs.length+1) j) (gs.length+1) (nV n gs++[s_ W.heap.size n n]))(t:(sG W n).grownBy w2 vf.ownBlock) :
  GP w g r gg n (s_ p (gs.length+1) j) (gs++[W.heap.size]) (w2.setCell (a_ gg 1) (s_ p (gs.length+1) j)):=by
 have d:=h.below (jT W n);have u:=gs_ w2 gg 1 (s_ p (gs.length+1) j);have f:=dZ d.own d.b d_ t;have x:=dZ d.own d.aY d_ t;refine⟨cK f 1 _,?_,fun l c=>?_,?_,?_,h.gl,?_,h.rl,fun l c=>?_⟩
 .have:=dG z f d_ u;rw[la_,uy];exact this
 .have k:Bl (sG W n) l n (fun _=>false):=by
   rcases ma_.1 c with c | c
   .exact d.row l c
   .simp at c;subst c;exact yC W n
  have a:=dZ d.own k d_ t;exact bR a u (fun e=>dI a f d_ (oi_ e))
 .rw [List.nodup_append];refine⟨h.nd,i_,fun a y b e=>?_⟩;simp at e;subst e;have:=bP (h.row a y);omega
 .have b:w.heap.size<=(sG W n).heap.size:=lt_ h.be.size (jT W n).size;have a:B_ w w2:=d.be.grown t b (fun k e=>(ol_ d.own k e).1);exact a.grown u a.size (fun k e=>by cases e;exact h.gl)
 .exact bR x u (fun e=>dI x f d_ (oi_ e))
 .rcases ma_.1 c with c | c
  .exact h.lo l c
  .simp at c;subst c;exact h.be.size
end
theorem EI{w w':W_}{base e size:Nat}{xs:List V_}{row:Option Nat}(h:w.ownsRow base e size v n xs)(a:∀k,v.ownBlock=some k->some k≠row)(b:w.grownBy w' row):w'.ownsRow base e size v n xs:=by
 refine⟨h.1,?_⟩;rcases h.2 with h0 | ⟨g',cap,cur,h1,h2,h3,h4⟩
 .exact .inl h0
 .refine .inr ⟨g',cap,cur,h1,h2,?_,h4⟩;rw[b.block g' (Array.getElem?_eq_some_iff.1 h3).1 (a g' (by rw[h1];rfl))];exact h3
structure ML(w:W_)(ls:List aC)(mode:Int)(g r gg gf cap n gl B1 i gF:Nat)(gs:List Nat)(Nc:List V_)(W:W_):Prop where
 be:B_ w W
 gf':Gf W gg g gf cap n gs (FT ls mode i)
 fi:Bl W gF n (Eb ls mode i)
 la:dh W gl 153 Nc
 ll:Nc.length=ls.length
 lr:∀(j:Nat) (x:aC),ls[j]?=some x->∃v,Nc[j]?=some v/\(j<i/\x.mode=mode->∃g',v=dE g' n/\B1<=g'/\Bl W g' n (Pu.Nb x.re (dQ (ls.take j))))/\(¬(j<i/\x.mode=mode)->v=n_)
 aY:dh W r 183 [n_,n_,n_]
 rl:w.heap.size<=r
 up:∀g'∈gs,g'<B1
 fl:B1<=gF
 lo:B1<=gl
 wb:w.heap.size<=B1
 gw:∀g'∈gs,w.heap.size<=g'
 gfl:gf<B1
section
variable {w:W_} {ls:List aC} {mode:Int} {g r gg gf cap n gl B1 i gF:Nat} {gs:List Nat} {Nc:List V_} {W W':W_}
theorem ML.below(h:ML w ls mode g r gg gf cap n gl B1 i gF gs Nc W)(a:B_ W W'):ML w ls mode g r gg gf cap n gl B1 i gF gs Nc W':=
 ⟨h.be.trans (a.mono h.be.size),h.gf'.below a,bO h.fi a (bP h.fi),bO h.la a (bP h.la),h.ll,fun j x u=>by
  obtain⟨v,l,p,t⟩:=h.lr j x u;refine⟨v,l,fun c=>?_,t⟩;obtain⟨f,d,e,b⟩:=p c;exact⟨f,d,e,bO b a (bP b)⟩,bO h.aY a (bP h.aY),h.rl,h.up,h.fl,h.lo,h.wb,h.gw,h.gfl⟩
theorem ML.skip(h:ML w ls mode g r gg gf cap n gl B1 i gF gs Nc W){x:aC}(f:ls[i]?=some x)(d:x.mode≠mode):ML w ls mode g r gg gf cap n gl B1 (i+1) gF gs Nc W:=by
 refine⟨h.be,h.gf'.congr (fun a c _ _=>?_),h.fi.congr (fun k _=>?_),h.la,h.ll,fun j y b=>?_,h.aY,h.rl,h.up,h.fl,h.lo,h.wb,h.gw,h.gfl⟩
 .show _=(FT ls mode i a c || Pu.foL ls mode i a c);unfold Pu.foL;rw[f];simp[d]
 .show _=(Eb ls mode i k || Pu.fiL ls mode i k);unfold Pu.fiL;rw[f];simp[d]
 .obtain⟨v,l,p,t⟩:=h.lr j y b;refine⟨v,l,fun c=>p ⟨?_,c.2⟩,fun c=>t (fun e=>c ⟨o_,e.2⟩)⟩;by_cases e:j=i
  .subst e;rw[f]at b;cases b;exact absurd c.2 d
  .omega
theorem Gk.qK{B:Nat}(a:Gk gs W W')(d:∀c∈gs,B<=c):Below B w W->B<=W.heap.size->Below B w W':=by intro h f;exact⟨a.os.trans h.os,a.tape.trans h.tape,a.output.trans h.output,lt_ h.size a.size,fun k b=>(a.block k (Nat.lt_of_lt_of_le b f) (fun e=>by have:=d _ e;omega)).trans (h.block k b)⟩
theorem ML.marked(h:ML w ls mode g r gg gf cap n gl B1 i gF gs Nc W)(G:Gk gs W W'){Ii:Nat->Nat->Bool}(hf:Gf W' gg g gf cap n gs Ii){x:aC}(I:ls[i]?=some x)(O:x.mode=mode)(L:∀a c,Ii a c=(FT ls mode i a c || Pu.Ew x.re (dQ (ls.take i)) a c)){gF' p:Nat}{t:W_}(z:B_ W' t)(hF:Bl t gF' n (fun k=>Eb ls mode i k || Pu.Iy x.re (dQ (ls.take i)) k))(lF:B1<=gF')(A:Bl t p n (Pu.Nb x.re (dQ (ls.take i))))(lb:B1<=p) :
  ML w ls mode g r gg gf cap n gl B1 (i+1) gF' gs (Nc.set i (dE p n)) (t.setCell (a_ gl i) (dE p n)):=by
 have D:∀k,B1<=k->k∉gs:=fun k b e=>by have:=h.up _ e;omega
 have B:=G.fB h.la (D _ h.lo);have b:=bO B z (bP B);have X:=G.fB h.aY (h.gf'.Vy h.aY d_);have Y:=bO X z (bP X);have d:=gs_ t gl i (dE p n);have l:=(hf.below z);have u:=G.qK h.gw h.be (lt_ h.wb (ll_ (Nat.lt_of_le_of_lt h.lo (bP h.la))));have Q:B_ w t:=u.trans (z.mono u.size);have il:i<Nc.length:=by rw[h.ll];exact Pu.nW I
 refine⟨Q.grown d Q.size (fun k e=>by cases e;exact lt_ h.wb h.lo),?_,?_,cK b i _,by rw[le_];exact h.ll,fun j y N=>?_,?_,h.rl,h.up,lF,h.lo,h.wb,h.gw,h.gfl⟩
 .refine Gf.congr (fo:=Ii) ⟨bR l.b d (fun e=>dI l.b b d_ (oi_ e)),?_,l.len,fun j F e=>bR (l.row j F e) d (fun J=>dI (l.row j F e) b d_ (oi_ J)),l.nd⟩ (fun a c _ _=>?_)
  .exact EI l.own (fun k e J=>by have U:gf=k:=oi_ e;have V:=oi_ J;have:=h.gfl;have:=h.lo;omega) d
  .rw [L];show _=(FT ls mode i a c || Pu.foL ls mode i a c);unfold Pu.foL;rw[I];simp[O]
 .refine (Bl.congr (f:=fun k=>Eb ls mode i k || Pu.Iy x.re (dQ (ls.take i)) k) (bR hF d (fun e=>dI hF b d_ (oi_ e))) (fun k _=>?_));show _=(Eb ls mode i k || Pu.fiL ls mode i k);unfold Pu.fiL;rw[I];simp[O]
 .by_cases e:j=i
  .subst e;rw[I]at N;cases N;refine⟨dE p n,by rw[List.getElem?_set_self il],fun _=>⟨p,rfl,lb,bR A d (fun e=>dI A b d_ (oi_ e))⟩,fun c=>absurd ⟨ls_ _,O⟩ c⟩
  .obtain⟨v,U,V,h3⟩:=h.lr j y N;refine⟨v,by rw[List.getElem?_set_ne (fun a=>e a.symm)];exact U,fun c=>?_,fun c=>h3 (fun F=>c ⟨o_,F.2⟩)⟩;obtain⟨F,Z,J,e3⟩:=V ⟨o_,c.2⟩;have R:=G.fB e3 (D _ J);have T:=bO R z (bP R);exact⟨F,Z,J,bR T d (fun e=>dI T b d_ (oi_ e))⟩
 .exact bR Y d (fun e=>dI Y b d_ (oi_ e))
end
theorem jP{w:W_}{d:Array Oper}{rest:List Oper}{o:Oper}{a:Act}{Q:Exit->Act->W_->Prop}(B:o.guard=none)(s x:Operand)(t e:TypeId)
  (R:o.op=.call { callee:=.builtin .append,args:=#[s,x],argTypes:=#[t,t] }) (z:V_) (b:Nat) (f:prog.underlying t=some (.slice e)) (O:(prog.info? e).map (fun i=>(i.zero,i.size,i.bytes))=some (some z,1,b)) (J:z.cells.size=1) (A:b<=24)
  (base:Nat) (v:V_) (c:List V_) (U:a.eval s=v) (L:w.ownsRow base e 1 v c.length c)
  (p:Nat) (q:V_) (V:a.eval x=s_ p 1 1) (N:dh w p e [q]) (T:q.oneCell'=true) (Z:c.length<=1000) (Y:base<=w.heap.size)
  (h:∀l w',w'.ownsRow base e 1 l (c++[q]).length (c++[q])->w.grownBy w' v.ownBlock->wpList prog d Q rest (a.put o.dst l) w'):wpList prog d Q (o::rest) a w:=by
 obtain⟨X,D,F,G,I⟩:=ip_ O;refine wo_ _ B s x t R base e X _ 1 b f D F G I J d_ v c.length c U L (a_ p 0) 1 1 [q] V rfl ?_ (fun u f=>by simp at f;rw[f];exact T) (by unfold maxLen;omega) ?_ Y ?_
 .intro j y u;have:=bN N u;simpa [add_eq]using this
 .have:(c.length+1)*b<=1001*24:=Nat.mul_le_mul o_ A;omega
 .intro l w' j u _;refine h l w' ?_ u;rw[la_];exact j
theorem Xo:(prog.info? 31).map (fun i=>(i.zero,i.size,i.bytes))=some (some n_,1,24):=k_
theorem yY:(prog.info? 3).map (fun i=>(i.zero,i.size,i.bytes))=some (some (I_ 0),1,8):=k_
structure MS(W1:W_)(n go:Nat)(vS vT vR:V_)(xx:List Nat)(S:List (Nat->Bool))(ts rs:List V_)(W:W_):Prop where
 be:B_ W1 W
 b:dh W go 183 [vS,vT,vR]
 s:Bls W1.heap.size W vS n xx S
 t:W.ownsRow W1.heap.size 31 1 vT ts.length ts
 r:W.ownsRow W1.heap.size 3 1 vR rs.length rs
 lo:W1.heap.size<=go
section
variable {W1 W W' w2:W_} {n go:Nat} {vS vT vR v2:V_} {xx:List Nat} {S:List (Nat->Bool)} {ts rs:List V_}
theorem MS.below(h:MS W1 n go vS vT vR xx S ts rs W)(a:B_ W W'):MS W1 n go vS vT vR xx S ts rs W':=
 ⟨h.be.trans (a.mono h.be.size),bO h.b a (bP h.b),h.s.below a,bW h.t a dF,bW h.r a dF,h.lo⟩
theorem MS.grow(h:MS W1 n go vS vT vR xx S ts rs W){d k:Nat}{l:V_}{xs:List V_}(c:W.ownsRow d 3 1 l k xs)(j:∀b,vR.ownBlock=some b->b<d)(t:W1.heap.size<=d)(a:W.grownBy W' l.ownBlock):MS W1 n go vS vT vR xx S ts rs W':=
 ⟨h.be.grown a h.be.size (fun k e=>lt_ t (ol_ c k e).1),dZ c h.b d_ a,⟨fU h.s.own c d_ a,h.s.len,fun i g f e p=>dZ c (h.s.row i g f e p) d_ a⟩,fU h.t c d_ a,EI h.r (fun k e f=>by have:=j k e;have:=(ol_ c k f.symm).1;omega) a,h.lo⟩
theorem MS.agC(h:MS W1 n go vS vT vR xx S ts rs W){j:Nat}(B:Bl W j n s)(A:w2.ownsRow W1.heap.size 153 1 v2 (nV n xx++[dE j n]).length (nV n xx++[dE j n]))(d:W.grownBy w2 vS.ownBlock) :
  MS W1 n go v2 vT vR (xx++[j]) (S++[s]) ts rs (w2.setCell (a_ go 0) v2):=by
 have a:=dZ h.s.own h.b d_ d;have b:=gs_ w2 go 0 v2;have p:B_ W1 w2:=h.be.grown d h.be.size (fun k e=>(ol_ h.s.own k e).1);refine⟨p.grown b p.size (fun k e=>by cases e;exact h.lo),cK a 0 _,⟨?_,by simp[h.s.len],fun i g f y c=>?_⟩,dG (fU h.t h.s.own d_ d) a d_ b,dG (fU h.r h.s.own d_ d) a d_ b,h.lo⟩
 .have:=dG A a d_ b;rw[uy,la_];rw[la_,xP]at this;exact this
 .have D:Bl W g n f:=by
   rcases ug y with ⟨z,l⟩ | ⟨u,x⟩
   .refine h.s.row i g f l ?_;rw[al_ (by rw[<-h.s.len];exact z)]at c;exact c
   .subst x;rw[u,h.s.len]at c;simp at c;rw[<-c];exact B
  have t:=dZ h.s.own D d_ d;exact bR t b (fun e=>dI t a d_ (oi_ e))
theorem MS.amI(h:MS W1 n go vS vT vR xx S ts rs W){q:V_}(t:w2.ownsRow W1.heap.size 31 1 v2 (ts++[q]).length (ts++[q]))(c:W.grownBy w2 vT.ownBlock) :
  MS W1 n go vS v2 vR xx S (ts++[q]) rs (w2.setCell (a_ go 1) v2):=by
 have a:=dZ h.t h.b d_ c;have b:=gs_ w2 go 1 v2;have d:B_ W1 w2:=h.be.grown c h.be.size (fun k e=>(ol_ h.t k e).1);refine⟨d.grown b d.size (fun k e=>by cases e;exact h.lo),cK a 1 _,⟨dG (fU h.s.own h.t d_ c) a d_ b,h.s.len,fun i g f l p=>?_⟩,dG t a d_ b,dG (fU h.r h.t d_ c) a d_ b,h.lo⟩;have j:=dZ h.t (h.s.row i g f l p) d_ c;exact bR j b (fun e=>dI j a d_ (oi_ e))
theorem MS.agB(h:MS W1 n go vS vT vR xx S ts rs W){q:V_}(t:w2.ownsRow W1.heap.size 3 1 v2 (rs++[q]).length (rs++[q]))(c:W.grownBy w2 vR.ownBlock) :
  MS W1 n go vS vT v2 xx S ts (rs++[q]) (w2.setCell (a_ go 2) v2):=by
 have a:=dZ h.r h.b d_ c;have b:=gs_ w2 go 2 v2;have d:B_ W1 w2:=h.be.grown c h.be.size (fun k e=>(ol_ h.r k e).1);refine⟨d.grown b d.size (fun k e=>by cases e;exact h.lo),cK a 2 _,⟨dG (fU h.s.own h.r d_ c) a d_ b,h.s.len,fun i g f l p=>?_⟩,dG (fU h.t h.r d_ c) a d_ b,dG t a d_ b,h.lo⟩;have j:=dZ h.r (h.s.row i g f l p) d_ c;exact bR j b (fun e=>dI j a d_ (oi_ e))
end
def Er(S:List (Nat->Bool))(n:Nat)(w:W_)(e:Ending)(w':W_):Prop:=∃vS vT vR xx,e=.returned (.agg #[vS,vT,vR])/\(∃a n c,vT=.slice a n c)/\(∃a n c,vR=.slice a n c)/\B_ w w'/\Bls w.heap.size w' vS n xx S
theorem XK{W:W_}{g:Nat}{a b c:V_}(h:dh W g 183 [a,b,c]):(loadVar 183 (a_ g 0)).run prog W=.ok (.agg #[a,b,c]) W:=
 run_loadVar_mid W g 0 183 [a,b,c] _ (eQ h) underlying183 rfl k_
theorem Pp{w d W:W_}{go r:Nat}{vS vT vR:V_}{xx:List Nat}{ts rs:List V_}(b:B_ w d)(l:dh d r 183 [n_,n_,n_])(z:w.heap.size<=r)(h:MS d n go vS vT vR xx S ts rs W) :
  (loadVar 183 (a_ r 0)).run prog (kG W r vS vT vR)=.ok (.agg #[vS,vT,vR]) (kG W r vS vT vR)/\Er S n w (.returned (.agg #[vS,vT,vR])) (kG W r vS vT vR):=by
 have c:=bO l h.be (bP l);have a:=jg W r vS vT vR;have j:B_ w W:=b.trans (h.be.mono b.size);obtain⟨B,F,u,_,_⟩:=eO h.t;obtain⟨A,D,t,_,_⟩:=eO h.r;refine⟨XK (jE c _ _ _),vS,vT,vR,xx,rfl,⟨_,_,_,u⟩,⟨_,_,_,t⟩,j.grown a j.size (fun k e=>by cases e;exact z),dH (dG h.s.own c d_ a) b.size,h.s.len,fun i g f x y=>?_⟩;have p:=h.s.row i g f x y;exact bR p a (fun e=>dI p c d_ (oi_ e))
theorem RZ(n:Nat)(f:Nat->Nat->Bool)(R:List Nat)(S:List (Nat->Bool)){j d:Nat}(a:R[j]?=some d):(R.take (j+1)).foldl (fun Q c=>rH n Q (f c)) S=rH n ((R.take j).foldl (fun Q c=>rH n Q (f c)) S) (f d):=by rw[List.take_add_one,a,List.foldl_append];rfl
namespace Pu
theorem Tv(h:sZ s n=0):rH n S s=S:=by unfold rH;rw[if_pos h]
theorem XX(h:sZ s n≠0)(a:IL n s S.tail 1<0):rH n S s=S++[s]:=by unfold rH;rw[if_neg h,if_pos a]
theorem XY(h:sZ s n≠0)(a:¬IL n s S.tail 1<0):rH n S s=S:=by unfold rH;rw[if_neg h,if_neg a]
end Pu
namespace Pu
section
variable {E:bI} {C:bJ} {K:List aA} {st:List Nat}
theorem Zb(E:bI)(C:bJ)(e:Int):∃more,(take E C e).dU=C.dU++more:=by
 unfold take;split
 .exact⟨[],i_⟩
 .split
  .exact⟨[],i_⟩
  .unfold took;simp only;split
   .exact⟨_,rfl⟩
   .exact⟨[],i_⟩
theorem JI(E:bI)(C:bJ):∀D,(look E C=.go D->D.dU=C.dU)/\∀e,look E C=.stop D e->D.dU=C.dU:=by
 intro D;unfold look;simp only;refine⟨fun h=>?_,fun e h=>?_⟩
 .split at h
  .cases h;split <;> rfl
  .split at h
   .split at h
    .split at h <;> cases h
    .split at h
     .cases h
     .cases h;rfl
   .split at h
    .cases h;split <;> rfl
    .split at h
     .cases h;rfl
     .cases h
 .split at h
  .cases h
  .split at h
   .split at h
    .split at h
     .cases h;rfl
     .cases h
    .split at h
     .cases h;rfl
     .cases h
   .split at h
    .cases h
    .split at h
     .cases h
     .cases h;rfl
theorem abX{C D:bJ}(h:zQ E C=some D):∃more,D.dU=C.dU++more:=by
 unfold zQ at h;split at h
 .cases h
 .split at h
  .cases h
  .rename_i F a;cases h;exact⟨[],by rw[(JI E C _).1 a];simp⟩
  .rename_i F e a;cases h;obtain⟨m,b⟩:=Zb E F e;exact⟨m,by rw[b,(JI E C _).2 e a]⟩
theorem qJ.dU{D:bJ}(h:qJ E C D):∃more,D.dU=C.dU++more:=by
 induction h with
 | refl=>exact⟨[],i_⟩
 | step _ c f=>obtain⟨a,d⟩:=f;obtain⟨b,e⟩:=abX c;exact⟨a++b,by rw[e,d,aa_]⟩
end
theorem xH.kok{K:List aA}(h:xH ls mode K):KOK K:=
 ⟨fun k a=>⟨(h.ok.2 k a).2.1,(h.ok.2 k a).2.2⟩,h.zero,fun b=>⟨h.none b,h.rule0⟩⟩
theorem xH.first{K:List aA}(h:xH ls mode K){w:List Nat}(c:CS w)(a:w≠[]):pJ ls mode w (RK K w):=by
 unfold RK;split
 .rename_i b;exact .inl ⟨rfl,fun i x d e=>h.lost b w c a i x d e⟩
 .rename_i b;exact h.rule w c o_ a
theorem xH.onw{K:List aA}(h:xH ls mode K){w:List Nat}(c:CS w):OnK K w↔OnW ls mode w:=by
 unfold OnK;by_cases b:K.length<=1
 .constructor
  .intro a;exact absurd b a.1
  .rintro ⟨v,a,j,i,x,d,e,f⟩;exact absurd f (h.lost b (w++v) (c.append j) (by simp[a]) i x d e)
 .rw [<-h.on w c o_];exact⟨fun a=>a.2,fun a=>⟨b,a⟩⟩
end Pu
namespace Pu
section
variable {ps:List aJ} {bg:List Nat} {k:Nat} {ss:List aN}
theorem Wk.did(h:Wk ps bg k 0 ss){i:Nat}(e:2<=i)(p:i<ss.length):∃j c,1<=j/\j<i/\c<256/\qM ss i=taking ps (Cx ps bg ss j) c:=by
 obtain⟨j,c,b,f,d,l⟩:=h.fr i e p;have a:j<k:=by apply Classical.byContradiction;intro t;have:=h.zero j c o_;omega
 have:=(h.led j c b o_ d (.inl a)).1;rw[l]at this;exact⟨j,c,b,f,d,this⟩
theorem Wk.inl(h:Wk ps bg k 0 ss)(f:jh ps)(b:sJ ps.length bg){i:Nat}(a:2<=i)(d:i<ss.length):sJ ps.length (qM ss i):=by
 obtain⟨j,c,_,_,_,e⟩:=h.did a d;rw[e];refine rf ps c ?_;unfold Cx;split
 .exact b
 .exact sV f _
theorem Wk.ne(h:Wk ps bg k 0 ss){i:Nat}(a:2<=i)(b:i<ss.length):qM ss i≠[]:=by
 have:=h.dis 0 i o_ b a;have c:qM ss 0=[]:=by unfold qM;rw[h.z0]
 rw[c]at this;exact fun e=>this e.symm
theorem Wk.count(h:Wk ps bg k 0 ss)(f:Nat->Nat)(n:Nat)(u:∀i,2<=i->i<ss.length->f i<n)(l:∀i j,2<=i->i<j->j<ss.length->f i≠f j):ss.length<=n+2:=by
 have two:=h.two;have:=qY n ((List.range (ss.length-2)).map (fun i=>f (i+2))) (wS (fun i j x a b=>by
  rw[gm_]at a b;by_cases p:i<ss.length-2
  .by_cases t:j<ss.length-2
   .rw [List.getElem?_range p]at a;rw[List.getElem?_range t]at b;have d:f (i+2)=x:=oi_ a;have e:f (j+2)=x:=oi_ b;rcases Nat.lt_trichotomy i j with c | c | c
    .exact absurd (d.trans e.symm) (l (i+2) (j+2) o_ o_ o_)
    .exact c
    .exact absurd (e.trans d.symm) (l (j+2) (i+2) o_ o_ o_)
   .rw [gn_ (by rw[List.length_range];omega)]at b;cases b
  .rw [gn_ (by rw[List.length_range];omega)]at a;cases a)) (fun v b=>by
  obtain⟨i,a,rfl⟩:=List.mem_map.1 b;have:=List.mem_range.1 a;exact u (i+2) o_ o_)
 rw[lm_,List.length_range]at this;omega
end
theorem aa1(ps:List aJ):∀(w S:List Nat) (c:Nat),goW ps S (w++[c])=taking ps (jq ps (goW ps S w)) c:=by
 intro w;induction w with
 | nil=>intro S c;rfl
 | cons a w b=>intro S c;exact b _ _
theorem YJ(q:List aD × List aJ)(mode:Int)(w:List Nat)(b:w≠[])(c:Nat):Be q mode (w++[c])=taking q.2 (jq q.2 (Be q mode w)) c:=by
 cases w with
 | nil=>exact absurd rfl b
 | cons a w=>exact aa1 q.2 w _ c
theorem Wk.word{q:List aD × List aJ}{k:Nat}{ss:List aN}(h:Wk q.2 (jQ q.1 mode) k 0 ss):∀(n i:Nat),i<=n->2<=i->i<ss.length->∃w,w≠[]/\qM ss i=Be q mode w:=by
 intro n;induction n with
 | zero=>intro i f a;omega
 | succ n t=>
  intro i f a l;obtain⟨j,c,u,x,_,e⟩:=h.did a l;by_cases b:j=1
  .subst b;refine⟨[c],i_,?_⟩;rw[e];unfold Cx;rw[if_pos rfl];rfl
  .obtain⟨w,p,d⟩:=t j o_ o_ o_;refine⟨w++[c],i_,?_⟩;rw[e,YJ q mode w p,<-d];unfold Cx;rw[if_neg b]
structure Lit(a:aM)(u:List Nat):Prop where
 leaves:a.leaves=u.length
 iP:a.iP=false
 fi:∀n p,Fi a n p↔p=n
 la:∀n p,La a n p↔p+1=n+u.length
 fo:∀n p q,Fo a n p q↔n<=p/\q=p+1/\q<n+u.length
 aZ:∀n p c,Tk a n p c↔n<=p/\u[p-n]?=some c
 m:∀v,M a v↔v=u
theorem Lit.pos{a:aM}{u:List Nat}(h:Lit a u):1<=u.length:=by
 cases u with
 | nil=>have:=(aiw a).1 ((h.m []).2 rfl);rw[h.iP]at this;cases this
 | cons x u=>simp
theorem Lit.pa{a:aM}{u:List Nat}(h:Lit a u){n p r:Nat}{w:List Nat}(f:Pa a n p w r):n<=p/\p<=r/\r<n+u.length/\w=(u.drop (p-n)).take (r+1-p):=by
 induction f with
 | @one p c b=>have:=(h.aZ n p c).1 b;have y:=(ge_.1 this.2).1;refine⟨this.1,dF,o_,?_⟩;rw[(o_:p+1-p=1),List.drop_eq_getElem?_toList_append,this.2];rfl
 | @cons p q r c w b e _ t=>have d:=(h.aZ n p c).1 b;have x:=(h.fo n p q).1 e;obtain⟨z,A,j,l⟩:=t;refine⟨d.1,o_,j,?_⟩;rw[l,List.drop_eq_getElem?_toList_append (i:=p-n),d.2,(o_:r+1-p=(r+1-q)+1),(o_:q-n=p-n+1)];rfl
section
variable {ls:List aC} {q:List aD × List aJ} {mode:Int}
end
end Pu
namespace Pu
theorem ae4(a:List aC){f:Nat}{x:aC}(h:a[f]?=some x):rg (nH a).rules f=⟨x.emit,x.act,x.md⟩:=by obtain⟨c,b,_⟩:=qP a h;show (jU (dx a).1).getD f aY=_;unfold jU;rw[gd_,gm_,b];rfl
theorem Rx{a:List aC}(c:∀j,j<aV a->(gJ a j).length<=42){m:Nat}(h:m<aV a):∃(K:List aA) (e:Nat),xH a (m:Int) K/\aU (nH a).ents m=(e:Int)/\Q9 (nH a).code e K:=by
 have b:(pg a)[m]?=some (jW (dx a).1 (gJ a m)):=by unfold pg;rw[gm_,List.getElem?_range h];rfl
 obtain⟨e,d,_,f⟩:=(yN c).at_ m _ b;refine⟨_,e,Gl c b,?_,f⟩;show (uP (pg a)).1.getD m 0=_;rw[gd_,d];rfl
end Pu
def Kv(p:lZ)(s:Y_)(c:Int):Prop:=(gu p/\s=strOfNums (Pu.rT p)/\c=0)\/(¬gu p/\s=⟨#[]⟩/\c=1)
def UM(p:lZ)(w:W_)(e:Ending)(w':W_):Prop:=∃s c,e=.returned (.tuple #[.string s,I_ c])/\B_ w w'/\Kv p s c
theorem Kv.same{p:lZ}{s t:Y_}{c d:Int}(h:Kv p s c)(k:Kv p t d):s=t/\c=d:=by
 rcases h with ⟨a,b,e⟩ | ⟨a,b,e⟩ <;> rcases k with ⟨f,j,l⟩ | ⟨f,j,l⟩
 .exact⟨b.trans j.symm,e.trans l.symm⟩
 .exact absurd a f
 .exact absurd f a
 .exact⟨b.trans j.symm,e.trans l.symm⟩
theorem acd(B D A:V_)(p:lZ)(w:W_)(j:om w B p.ents)(l:jX w D p.rules)(f:Code w A p.code) :
  Calls prog 33 #[.agg #[B,D,A]] w (UM p w):=by
 obtain⟨G,N,rfl,T,U⟩:=j.form;obtain⟨I,O,rfl,V,X⟩:=l.form;obtain⟨F,L,rfl,Q,R⟩:=f.form;have u:=bL j;have y:=bL l;have t:=bL f;clear j l f;have a:=bL ((Br_ w.heap.size w).alloc dF (c_ #[.slice G p.ents.length N,.slice I p.rules.length O,.slice F p.code.length L] 42));go_in;go_wp2_with fail;refine (JZ _ _ _ p _ (u.o.below a.o) (y.o.below a.o) (t.o.below a.o)).mono ?_;rintro e Z ⟨J,rfl,b,d⟩;have c:=zH (Br_ _ _) d;have z:=(Dc d).1;cases J
 .go_wp2;go_ret2;exact⟨_,_,rfl,c,.inr ⟨fun h=>Bool.noConfusion (b.2 h),rfl,rfl⟩⟩
 have x:=bL (b.1 rfl);clear b;go_wp2_with fail;refine (Kj _ _ _ p _ (u.o.below c) (y.o.below c) (t.o.below c) x.o).mono ?_;rintro e w2 ⟨rfl,b⟩;have Y:=ja c b;go_wp2;go_ret2;exact⟨_,_,rfl,Y,.inl ⟨x.o,rfl,rfl⟩⟩
theorem Dv(B D A:V_)(p:lZ)(w:W_)(j:om w B p.ents)(l:jX w D p.rules)(f:Code w A p.code) :
  Calls prog 8 #[.agg #[B,D,A]] w (UM p w):=by
 obtain⟨G,N,rfl,T,U⟩:=j.form;obtain⟨I,O,rfl,V,X⟩:=l.form;obtain⟨F,L,rfl,Q,R⟩:=f.form;have u:=bL j;have y:=bL l;have t:=bL f;clear j l f;have a:=bL ((Br_ w.heap.size w).alloc dF (c_ #[.slice G p.ents.length N,.slice I p.rules.length O,.slice F p.code.length L] 42));go_in;go_wp2_with fail;refine (AZ _ _ _ p _ (u.o.below a.o) (y.o.below a.o) (t.o.below a.o)).mono ?_;rintro e Z ⟨J,rfl,b,d⟩;have c:=zH (Br_ _ _) d;have z:=(Dc d).1;cases J
 .go_wp2;go_ret2;exact⟨_,_,rfl,c,.inr ⟨fun h=>Bool.noConfusion (b.2 h),rfl,rfl⟩⟩
 have x:=bL (b.1 rfl);clear b;go_wp2_with fail;refine (QJ _ _ _ p _ (u.o.below c) (y.o.below c) (t.o.below c) x.o).mono ?_;rintro e w2 ⟨rfl,b⟩;have Y:=ja c b;go_wp2;go_ret2;exact⟨_,_,rfl,Y,.inl ⟨x.o,rfl,rfl⟩⟩
theorem yD(I J G D F B:V_)(p:lZ)(w:W_)(f:om w I p.ents)(j:jX w J p.rules)(d:Code w G p.code)(t:om w D p.ents)(u:jX w F p.rules)(l:Code w B p.code) :
  Calls prog 38 #[.agg #[I,J,G],.agg #[D,F,B]] w (aac w):=by
 obtain⟨O,V,rfl,he1,he2⟩:=f.form;obtain⟨Q,X,rfl,hr1,hr2⟩:=j.form;obtain⟨N,U,rfl,hc1,hc2⟩:=d.form;obtain⟨be,Z,rfl,ie1,ie2⟩:=t.form;obtain⟨T,dr,rfl,ir1,ir2⟩:=u.form;obtain⟨R,Y,rfl,ic1,ic2⟩:=l.form;have H:=bL (And.intro f (And.intro j (And.intro d (And.intro t (And.intro u l)))));clear f j d t u l;have b:=bL (((Br_ w.heap.size w).alloc dF (c_ #[.slice O p.ents.length V,.slice Q p.rules.length X,.slice N p.code.length U] 42)).alloc i_ (c_ #[.slice be p.ents.length Z,.slice T p.rules.length dr,.slice R p.code.length Y] 42));go_in;go_wp2_with fail;refine (Qh _ _ p.ents _ (H.o.1.below b.o) (H.o.2.2.2.1.below b.o)).mono ?_;rintro e y ⟨rfl,a⟩;have c:B_ w y:=b.o.trans (a.mono (by simp;omega));have z:=(Dc a).1;have hz1:w.heap.size+1<y.heap.size:=by have:=a.size;simp at this;omega
 have hy1:w.heap.size<y.heap.size:=o_;go_wp2_with fail;clear a;refine (Mx _ _ p.rules _ (H.o.2.1.below c) (H.o.2.2.2.2.1.below c)).mono ?_;rintro e w2 ⟨rfl,a⟩;have x:=ja c a;have A:=(Dc a).1;have hz2:w.heap.size+1<w2.heap.size:=by have:=a.size;omega
 have hy2:w.heap.size<w2.heap.size:=o_;go_wp2_with fail;clear a;refine (Qg _ _ p.code _ (H.o.2.2.1.below x) (H.o.2.2.2.2.2.below x)).mono ?_;rintro e w3 ⟨rfl,a⟩;have L:=ja x a;go_wp2;go_ret;exact⟨rfl,L⟩
theorem Wq(s:Y_)(w:W_):Calls prog 40 #[.string s] w (fun e w'=>∃d no,e=.returned (.tuple #[I_ d,I_ no])/\B_ w w'/\uL s d no):=by
 go_in;go_wp2_with fail;refine (JW s w).mono ?_;rintro e G ⟨a,b,c,F,d,no,rfl,t,A,z,B⟩;have D:=bL A;have one:∃x f n1 l j y p,a=I_ x/\b=.slice f n1 l/\c=.slice j y p:=by
  by_cases e:d=0
  .obtain⟨f,j,x,p,l,y,u,_,_,_,_,rfl,rfl,rfl,_⟩:=B e;exact⟨_,_,_,_,_,_,_,rfl,rfl,rfl⟩
  .obtain⟨f,_⟩:=z e;cases f;exact⟨_,_,_,_,_,_,_,rfl,rfl,rfl⟩
 obtain⟨x,f,n1,l,j,y,p,rfl,rfl,rfl⟩:=one;have u:=bL (t.alloc t.size (c_ #[I_ x,.slice f n1 l,.slice j y p] 122));clear t A z B;go_wp2;go_ret2;exact⟨_,_,rfl,u.o,D.o⟩
open Go.ChangeShapes Go.WideShapes Go.ChangeAt Go.RowKit Go.Deep Go.Joins
theorem Tryz.own:ownKnob prog.godebug=none:=k_
theorem Tryz.laidOut:laidOutB prog=true:=k_
theorem Tryz.cells3 : prog.cellsOf 3 = 1:=k_
theorem Tryz.cells9 : prog.cellsOf 9 = 1:=k_
theorem Tryz.cells42 : prog.cellsOf 42 = 3:=k_
theorem Tryz.cells48 : prog.cellsOf 48 = 3:=k_
theorem Tryz.cells50 : prog.cellsOf 50 = 4:=k_
theorem Tryz.cells31 : prog.cellsOf 31 = 1:=k_
theorem Tryz.cells39 : prog.cellsOf 39 = 1:=k_
theorem Tryz.cells40 : prog.cellsOf 40 = 1:=k_
theorem Tryz.cells44 : prog.cellsOf 44 = 8:=k_
theorem ahv{n:Int}(h:(Lit.int .i64 n).wf=true):Nz n:=by simp only[Lit.wf,Bool.and_eq_true,decide_eq_true_eq]at h;exact h
theorem NY{H:Type}(l r:List (DataW H)):Rows.uptoBulkAll (l++r)=Rows.uptoBulkAll l+Rows.uptoBulkAll r:=by
 induction l with
 | nil=>simp[Rows.uptoBulkAll]
 | cons x l a=>simp only[List.cons_append,Rows.uptoBulkAll,a];omega
theorem Rq{H:Type}{l:List (DataW H)}(a:Rows.uptoSmall H l=true):Rows.uptoBulkAll l<=1048576:=of_decide_eq_true a
theorem aax{H:Type}(d:DataW H):1<=Rows.uptoBulk d:=by unfold Rows.uptoBulk;split <;> omega
theorem aav{H:Type}(l:List (DataW H)):l.length<=Rows.uptoBulkAll l:=by
 induction l with
 | nil=>exact zl_ _
 | cons x l a=>have:=aax x;simp only[lc_,Rows.uptoBulkAll];omega
theorem aaw{H:Type}{l:List (DataW H)}{d:DataW H}(h:d∈l):Rows.uptoBulk d<=Rows.uptoBulkAll l:=by
 induction l with
 | nil=>cases h
 | cons x l a=>
  simp only[Rows.uptoBulkAll];rcases mm_.1 h with rfl | h
  .omega
  .have:=a h;omega
def zAt(W:W_)(a:Addr):Int:=match W.cell? a with
 | some (.int _ z)=>z
 | _=>0
theorem ahK{W:W_}{a:Addr}(h:∃z,W.cell? a=some (I_ z)):W.cell? a=some (I_ (zAt W a)):=by obtain⟨z,h⟩:=h;unfold zAt;rw[h]
section
variable {H:Type} {enc:TypeId × V_->H} {W:W_} {spare:Nat->Bool} {held:Bool}
theorem Gd{k j:Nat}{y:DataW H × List MemPlace}(h:DataW.trod enc prog W 0 spare held k 3 ((cs.drop j).take (prog.cellsOf 3))=some y):∃z,cs[j]?=some (I_ z)/\Nz z:=by rw[cells3]at h;obtain⟨n,c,-,w⟩:=DataW.trod_int underlying3 h;refine⟨n,?_,ahv w⟩;have:=congrArg (·[0]?) c;simpa using this
theorem Dn{t:Nat}{a:Array Field}{x:DataW H × List MemPlace}(p:prog.underlying t=some (.struct a))(F:a.size=n)(e:∀i,i<n->a[i]?.map (fun f=>(f.type,f.offset))=some (3,i))(h:DataW.trod enc prog W 0 spare held fuel t cs=some x):∀i,i<n->∃z,cs[i]?=some (I_ z):=by intro i l;obtain⟨D,k,-,-,-,u,j⟩:=DataW.trod_struct p h;have d:=e i l;obtain⟨f,c,b⟩:=Option.map_eq_some_iff.1 d;have g:=j i f c;obtain⟨y,A⟩:=rG D i;rw[A,(Prod.mk.inj b).1,(Prod.mk.inj b).2]at g;obtain⟨z,B,-⟩:=Gd g;exact⟨z,B⟩
theorem Mo{ts e:Nat}{x:DataW H × List MemPlace}(T:prog.underlying ts=some (.slice e))(N:prog.cellsOf e=n)(J:0<n)(O:∀fuel cs (y:DataW H × List MemPlace),DataW.trod enc prog W 0 spare held fuel e cs=some y->∀i,i<n->∃z,cs[i]?=some (I_ z))(h:DataW.trod enc prog W 0 spare held fuel ts [v]=some x) :
  ∃(len:Nat) (f:Nat->Nat->Int) (G:Option Addr) (cap:Nat),v=.slice G len cap/\len<=cap/\cap<=9223372036854775807/\len<=Rows.uptoBulk x.1/\∀i,i<len->∃b c,G=some (a_ b c)/\b<W.heap.size/\∀j,j<n->W.cell? (a_ b (c+i*n+j))=some (I_ (f i j)):=by
 rcases open_slice T h with ⟨l,L⟩ | ⟨a,len,cap,m,k,D,aJ,l,_,Q,I,F,L,V⟩
 .exact⟨0,fun _ _=>0,none,0,(List.cons.inj l).1,dF,o_,zl_ _,fun i A=>absurd A (Nat.not_lt_zero _)⟩
 .have R:len<=m:=by rw[F];split <;> omega
  unfold maxLen at I;have d:∀i,i<len->∀j,j<n->∃z,W.cell? (a.add (i*n+j))=some (I_ z):=by intro i A j B;obtain⟨t,p,u⟩:=V i o_;rw[N]at p;obtain⟨_,U,g⟩:=World.cells?_some p;have e:=g j B;rw[add_add]at e;rw[e];exact O _ _ _ u j B
  refine⟨len,fun i j=>zAt W (a.add (i*n+j)),some a,cap,(List.cons.inj l).1,Q,I,?_,fun i A=>?_⟩
  .rw [L];have:=aav ((List.range len).map D);simp only[lm_,List.length_range]at this;simp only[Rows.uptoBulk];omega
  .obtain⟨b,c,u⟩:=a;have p:u=none:=by obtain⟨z,U⟩:=d 0 o_ 0 J;simpa [Addr.add]using World.cell?_spot U
   subst p;have t:∀j,j<n->W.cell? (a_ b (c+i*n+j))=some (I_ (zAt W (Addr.add (a_ b c) (i*n+j)))):=fun j B=>by have:=ahK (d i A j B);rw[add_eq]at this |-;rw[Nat.add_assoc];exact this
   exact⟨b,c,rfl,World.block_lt_of_cell? W _ (t 0 J),t⟩
theorem aep{x:DataW H × List MemPlace}(h:DataW.trod enc prog W 0 spare held fuel 31 [v]=some x):∃l,om W v l/\l.length<=Rows.uptoBulk x.1:=by
 obtain⟨len,f,d,cap,rfl,e,j,p,t⟩:=Mo underlying31 cells3 o_ (fun fuel cs y b i a=>by
  obtain⟨n,c,-,-⟩:=DataW.trod_int underlying3 b;obtain rfl:i=0:=o_;exact⟨n,by rw[c];rfl⟩) h
 refine⟨(List.range len).map (fun i=>f i 0),⟨d,cap,i_,by simpa using e,j,fun i a=>?_⟩,by simpa using p⟩;simp only[lm_,List.length_range]at a;obtain⟨b,c,rfl,u,y⟩:=t i a;have:=y 0 o_;exact⟨b,c,rfl,u,by simpa [Pu.aU,gd_,a]using this⟩
theorem aco{x:DataW H × List MemPlace}(h:DataW.trod enc prog W 0 spare held fuel 39 [v]=some x):∃l,jX W v l/\l.length<=Rows.uptoBulk x.1:=by
 obtain⟨len,f,j,cap,rfl,p,t,u,z⟩:=Mo underlying39 cells48 o_ (fun fuel cs y a=>Dn underlying48 rfl d_ a) h;refine⟨(List.range len).map (fun i=>⟨f i 0,f i 1,f i 2⟩),⟨j,cap,i_,by simpa using p,t,fun i c=>?_⟩,by simpa using u⟩;simp only[lm_,List.length_range]at c;obtain⟨b,d,rfl,y,a⟩:=z i c;have e:Pu.rg ((List.range len).map (fun i=>⟨f i 0,f i 1,f i 2⟩)) i=⟨f i 0,f i 1,f i 2⟩:=by simp[Pu.rg,gd_,c]
 rw[e];exact⟨b,d,rfl,y,a 0 o_,a 1 o_,a 2 o_⟩
theorem ad1{x:DataW H × List MemPlace}(h:DataW.trod enc prog W 0 spare held fuel 40 [v]=some x):∃l,Code W v l/\l.length<=Rows.uptoBulk x.1:=by
 obtain⟨len,f,j,cap,rfl,p,t,u,z⟩:=Mo underlying40 cells50 o_ (fun fuel cs y a=>Dn underlying50 rfl d_ a) h;refine⟨(List.range len).map (fun i=>⟨f i 0,f i 1,f i 2,f i 3⟩),⟨j,cap,i_,by simpa using p,t,fun i c=>?_⟩,by simpa using u⟩;simp only[lm_,List.length_range]at c;obtain⟨b,d,rfl,y,a⟩:=z i c;have e:Pu.aO ((List.range len).map (fun i=>⟨f i 0,f i 1,f i 2,f i 3⟩)) i=⟨f i 0,f i 1,f i 2,f i 3⟩:=by simp[Pu.aO,gd_,c]
 rw[e];exact⟨b,d,rfl,y,a 0 o_,a 1 o_,a 2 o_,a 3 o_⟩
end
structure Kz where
 kind:Int
 on:Int
 a:Int
 b:Int
 s:Y_
 ae:Option Addr
 ne:Nat
 ce:Nat
 ar:Option Addr
 nr:Nat
 cr:Nat
 ac:Option Addr
 nc:Nat
 cc:Nat
def Kz.afg(x:Kz):List V_:=[I_ x.kind,I_ x.on,I_ x.a,I_ x.b,.string x.s,.slice x.ae x.ne x.ce,.slice x.ar x.nr x.cr,.slice x.ac x.nc x.cc]
def UT(W:W_)(x:Kz):Prop:=(Nz x.on/\Nz x.a/\Nz x.b)/\∃p:lZ,om W (.slice x.ae x.ne x.ce) p.ents/\jX W (.slice x.ar x.nr x.cr) p.rules/\Code W (.slice x.ac x.nc x.cc) p.code/\p.ents.length*8<=140737488351232/\p.rules.length*24<=140737488351232/\p.code.length*32<=140737488351232
def agw(W:W_)(v:V_)(l:List Kz):Prop:=∃c cap,v=.slice c l.length cap/\l.length<=cap/\cap<=9223372036854775807/\
 ∀(i:Nat) (x:Kz),l[i]?=some x->UT W x/\∃b a,c=some (a_ b a)/\b<W.heap.size/\∀j u,x.afg[j]?=some u->W.cell? (a_ b (a+i*8+j))=some u
def yJ(l:List Kz):Nat:=(l.map (fun x=>x.s.size)).sum
theorem anF{α:Type}(l:List α)(h:l.length=3):∃a b c,l=[a,b,c]:=by
 match l,h with
 | [a,b,c],_=>exact⟨a,b,c,rfl⟩
theorem anG{α:Type}(l:List α)(h:l.length=6):∃a b c d e f,l=[a,b,c,d,e,f]:=by
 match l,h with
 | [a,b,c,d,e,f],_=>exact⟨a,b,c,d,e,f,rfl⟩
theorem anH{α:Type}(l:List α)(h:l.length=8):∃a b c d e f g i,l=[a,b,c,d,e,f,g,i]:=by
 match l,h with
 | [a,b,c,d,e,f,g,i],_=>exact⟨a,b,c,d,e,f,g,i,rfl⟩
theorem aeV{α:Type}{p:Nat->α->Prop}(h:∀i,i<n->∃x,p i x)(d:α):∃f:Nat->α,∀i,i<n->p i (f i):=by
 classical
 refine⟨fun i=>if a:i<n then Classical.choose (h i a) else d,fun i a=>?_⟩;simp only[dif_pos a];exact Classical.choose_spec (h i a)
section
variable {H:Type} {enc:TypeId × V_->H} {W:W_} {spare:Nat->Bool} {held:Bool}
theorem akc{x:DataW H × List MemPlace}(h:DataW.trod enc prog W 0 spare held fuel 44 cs=some x)(T:cs.length=8)(R:Rows.uptoBulk x.1<=1048576) :
  ∃o:Kz,cs=o.afg/\UT W o/\o.s.size+1<=Rows.uptoBulk x.1:=by
 obtain⟨Y,k,-,hx,-,f,d⟩:=DataW.trod_struct underlying44 h;have e:Y.length=6:=f;obtain⟨y0,y1,y2,y3,J,Z,rfl⟩:=anG Y e;obtain⟨U,V,v2,X,I,a,b,c,rfl⟩:=anH cs T;clear f e T;obtain⟨n0,c0,-⟩:=Gd (d 0 _ rfl);obtain⟨n1,c1,w1⟩:=Gd (d 1 _ rfl);obtain⟨n2,c2,w2⟩:=Gd (d 2 _ rfl);obtain⟨n3,c3,w3⟩:=Gd (d 3 _ rfl);have L:DataW.trod enc prog W 0 spare held k 9 ((List.drop 4 [U,V,v2,X,I,a,b,c]).take (prog.cellsOf 9))=some J:=d 4 _ rfl;have j:DataW.trod enc prog W 0 spare held k 42 ((List.drop 5 [U,V,v2,X,I,a,b,c]).take (prog.cellsOf 42))=some Z:=d 5 _ rfl;rw[cells9]at L;rw[cells42]at j;obtain⟨s,c4,e4,w4⟩:=DataW.trod_string underlying9 (L:DataW.trod enc prog W 0 spare held k 9 [I]=some J);obtain⟨zs,f,-,hz,-,D,B⟩:=DataW.trod_struct underlying42 (j:DataW.trod enc prog W 0 spare held k 42 [a,b,c]=some Z);have u:zs.length=3:=D;obtain⟨z0,z1,z2,rfl⟩:=anF zs u;have l:DataW.trod enc prog W 0 spare held f 31 ((List.drop 0 [a,b,c]).take (prog.cellsOf 31))=some z0:=B 0 _ rfl;have p:DataW.trod enc prog W 0 spare held f 39 ((List.drop 1 [a,b,c]).take (prog.cellsOf 39))=some z1:=B 1 _ rfl;have t:DataW.trod enc prog W 0 spare held f 40 ((List.drop 2 [a,b,c]).take (prog.cellsOf 40))=some z2:=B 2 _ rfl;rw[cells31]at l;rw[cells39]at p;rw[cells40]at t;obtain⟨le,O,he⟩:=aep (l:DataW.trod enc prog W 0 spare held f 31 [a]=some z0);obtain⟨G,Q,hr⟩:=aco (p:DataW.trod enc prog W 0 spare held f 39 [b]=some z1);obtain⟨F,N,hc⟩:=ad1 (t:DataW.trod enc prog W 0 spare held f 40 [c]=some z2);have z:=O;have A:=Q;have y:=N;obtain⟨ae,ce,rfl,-⟩:=z;obtain⟨ar,cr,rfl,-⟩:=A;obtain⟨ac,cc,rfl,-⟩:=y;have aW:=oi_ c0;have q1:=oi_ c1;have q2:=oi_ c2;have q3:=oi_ c3;have q4:=(List.cons.inj c4).1;subst aW q1 q2 q3 q4;have e:Rows.uptoBulk (J.1)=s.size+1:=by rw[e4];simp[Rows.uptoBulk]
 rw[hx]at R |-
 simp only[hz,Rows.uptoBulk,Rows.uptoBulkAll,List.map_cons,List.map_nil,e]at R |-
 exact⟨⟨n0,n1,n2,n3,s,ae,le.length,ce,ar,G.length,cr,ac,F.length,cc⟩,rfl,⟨⟨w1,w2,w3⟩,⟨le,G,F⟩,O,Q,N,by show le.length*8<=_;omega,by show G.length*24<=_;omega,by show F.length*32<=_;omega⟩,by show s.size+1<=_;omega⟩
theorem ahp{x:DataW H × List MemPlace}(h:DataW.trod enc prog W 0 spare held fuel 22 [v]=some x)(I:Rows.uptoBulk x.1<=1048576) :
  ∃l,agw W v l/\yJ l+l.length<=Rows.uptoBulk x.1:=by
 rcases open_slice underlying22 h with ⟨c,F⟩ | ⟨a,len,cap,m,n,D,aJ,c,_,L,J,B,F,O⟩
 .simp only[List.cons.injEq,and_true]at c;subst c;exact⟨[],⟨none,0,rfl,dF,o_,fun i x d=>by simp at d⟩,by simp[yJ]⟩
 .simp only[List.cons.injEq,and_true]at c;subst c;have N:len<=m:=by rw[B];split <;> omega
  unfold maxLen at J;rw[F]at I;simp only[Rows.uptoBulk]at I;have t:∀i,i<len->∃o:Kz,(∀j u,o.afg[j]?=some u->W.cell? (a.add (i*8+j))=some u)/\UT W o/\o.s.size+1<=Rows.uptoBulk (D i):=by intro i d;obtain⟨p,f,y⟩:=O i o_;rw[cells44]at f;obtain⟨_,G,z⟩:=World.cells?_some f;have:=aaw (List.mem_map.2 ⟨i,List.mem_range.2 d,rfl⟩:D i∈(List.range len).map D);obtain⟨o,rfl,Q,R⟩:=akc y G (by show Rows.uptoBulk (D i)<=_;omega);refine⟨o,fun j u A=>?_,Q,R⟩;have b:j<8:=(ge_.1 A).1;have e:=z j b;rw[add_add]at e;rw[e];exact A
  obtain⟨f,z⟩:=aeV t ⟨0,0,0,0,⟨#[]⟩,none,0,0,none,0,0,none,0,0⟩;refine⟨(List.range len).map f,⟨some a,cap,i_,by simpa using L,J,fun i x d=>?_⟩,?_⟩
  .have e:i<len:=by have:=(ge_.1 d).1;simpa using this
   rw[gm_,List.getElem?_range e]at d;obtain rfl:=(oi_ d).symm;have g:=(z i e).1;obtain⟨b,G,y⟩:=a;have p:y=none:=by have:=World.cell?_spot ((z 0 o_).1 0 _ rfl);simpa [Addr.add]using this
   subst p;simp only[add_eq]at g;exact⟨(z i e).2.1,b,G,rfl,World.block_lt_of_cell? W _ (g 0 _ rfl),fun j u A=>by rw[Nat.add_assoc];exact g j u A⟩
  .rw [F];have e:∀k,k<=len->yJ ((List.range k).map f)+k<=Rows.uptoBulkAll ((List.range k).map D):=by
    intro k;induction k with
    | zero=>intro _;simp[yJ]
    | succ k j=>intro p;have b:=j o_;have g:=(z k o_).2.2;rw[List.range_succ,List.map_append,List.map_append,NY];unfold yJ at b |-;rw[List.map_append,List.sum_append];simp[Rows.uptoBulkAll]at g |-;simp at b;omega
   have:=e len dF;simp only[Rows.uptoBulk,lm_,List.length_range];omega
end
end Go.Proofs.YtmccnmgaoppogabGreat
