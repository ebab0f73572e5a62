import Derived.Test.YtmccnmgaoppogabGreatuH4
import Derived.Test.YtmccnmgaoppogabGreatuKai
namespace Go.Proofs.YtmccnmgaoppogabGreat
open Pu
set_option linter.all false
open Go.Proofs.Tryz Tryz
set_option maxRecDepth 100000
set_option maxHeartbeats 8000000
open Go.RowKit
variable {size:Nat} {xs:List V_}
def dS(x:aF):List V_:=I_ x.kind::I_ x.l::I_ x.r::dD x.inn
def ndC(ns:List aF):List V_:=ns.flatMap dS
theorem iA(x:aF):(dS x).length=259:=by show (dD x.inn).length+1+1+1=259;rw[cZ]
theorem Pz(x:aF)(r:List aF):ndC (x::r)=dS x++ndC r:=rfl
theorem Tm(a b:List aF):ndC (a++b)=ndC a++ndC b:=by simp[ndC]
theorem aeL(x:aF):ndC [x]=dS x:=by rw[Pz];exact List.append_nil _
theorem aeK{ns:List aF}{p j:Nat}{x:aF}(a:ns[p]?=some x)(d:j<259):(ndC ns)[p*259+j]?=(dS x)[j]?:=by
 induction ns generalizing p with
 | nil=>simp at a
 | cons z r c=>
  rw[Pz];have b:=iA z;cases p with
  | zero=>rw[List.getElem?_cons_zero]at a;cases a;rw[Nat.zero_mul,Nat.zero_add,al_ o_]
  | succ p=>rw[cs_]at a;rw[ar_ o_,b,(o_:(p+1)*259+j-259=p*259+j)];exact c a
theorem jf(x:aF):∀u∈dS x,u.oneCell'=true:=by
 intro u a;unfold dS at a;rcases mm_.1 a with rfl | a
 .rfl
 .rcases mm_.1 a with rfl | a
  .rfl
  .rcases mm_.1 a with rfl | a
   .rfl
   .exact qQ _ u a
def zm:List V_:=dS ⟨0,0,0,Pu.dW⟩
theorem Tt:(prog.info? 181).map (fun i=>(i.zero,i.size,i.bytes))=some (some (.agg (I_ 0::I_ 0::I_ 0::List.replicate 256 (Value.bool false)).toArray),259,280):=k_
theorem Cu:(prog.info? 181).map (fun i=>(i.zero,i.size,i.bytes))=some (some (.agg zm.toArray),259,280):=by rw[Tt];unfold zm dS;rw[vE];rfl
theorem nA(w:W_):(zeroValue 181).run prog w=.ok (.agg zm.toArray) w:=by obtain⟨i,a,b,_⟩:=ip_ Cu;simp[zeroValue,typeInfo,go_sem,a,b]
theorem iH:(prog.info? 181).map (·.size)=some 259:=by obtain⟨i,a,_,b,_⟩:=ip_ Cu;rw[a,Option.map_some,b]
theorem wR:zm.length=259:=iA _
def rlC(modes:Int)(vn vl:V_)(down:Int)(s:Y_)(i:Nat):List V_:=[I_ modes,vn,vl,I_ down,.string s,I_ i]
def Db(W:W_)(g:Nat)(s:Y_)(i:Nat)(vn vl:V_)(modes down:Int):Prop:=dh W g 142 (rlC modes vn vl down s i)
section
variable {W W':W_} {g i:Nat} {s:Y_} {vn vl:V_} {modes down:Int}
theorem Db.below(h:Db W g s i vn vl modes down)(a:B_ W W'):Db W' g s i vn vl modes down:=bO h a (bP h)
theorem Db.at(h:Db W g s i vn vl modes down)(j:Nat):Db (W.setCell (a_ g 5) (I_ j)) g s j vn vl modes down:=cK h 5 _
theorem Db.dn(h:Db W g s i vn vl modes down)(x:Int):Db (W.setCell (a_ g 3) (I_ x)) g s i vn vl modes x:=cK h 3 _
theorem Db.nodes(h:Db W g s i vn vl modes down)(x:V_):Db (W.setCell (a_ g 1) x) g s i x vl modes down:=cK h 1 _
theorem Db.mode(h:Db W g s i vn vl modes down)(x:Int):Db (W.setCell (a_ g 0) (I_ x)) g s i vn vl x down:=cK h 0 _
theorem Db.lines(h:Db W g s i vn vl modes down)(x:V_):Db (W.setCell (a_ g 2) x) g s i vn x modes down:=cK h 2 _
end
structure Dr(B g:Nat)(s:Y_)(i:Nat)(ns:List aF)(vn vl:V_)(modes down:Int)(W:W_):Prop where
 rb:Db W g s i vn vl modes down
 up:B<=g
 own:W.ownsRow B 181 259 vn ns.length (ndC ns)
structure Dk(B:Nat)(w w':W_):Prop where
 lo:Below B w w'
 jr:∀(k:Nat) (cs:Array V_) (t:TypeId) (fr:Nat × Nat),w.heap[k]?=some (c_ cs t fr)->t≠142->t≠181->w'.heap[k]?=some (c_ cs t fr)
section
variable {B:Nat} {w w' w'':W_}
theorem Dk.refl(B:Nat)(w:W_):Dk B w w:=⟨Br_ _ _,fun _ _ _ _ h _ _=>h⟩
theorem Dk.trans(h:Dk B w w')(b:Dk B w' w''):Dk B w w'':=⟨h.lo.trans b.lo,fun k a t fr e c d=>b.jr k a t fr (h.jr k a t fr e c d) c d⟩
theorem Dk.below(b:B<=w.heap.size)(h:B_ w w'):Dk B w w':=⟨h.mono b,fun k d t fr a _ _=>by
 have c:=(Array.getElem?_eq_some_iff.1 a).1;rw[h.block k c];exact a⟩
theorem Dk.grown{g d:Nat}{xs:List V_}(c:dh w g d xs)(n:B<=g)(a:d=142\/d=181)(h:w.grownBy w' (some g)):Dk B w w':=by
 refine⟨(Br_ _ _).grown h (by have:=bP c;omega) (fun k e=>by cases e;exact n),fun k q t fr b f l=>?_⟩;have p:=(Array.getElem?_eq_some_iff.1 b).1;rw[h.block k p (fun e=>by
  cases e;unfold dh at c;rw[c]at b;cases b;rcases a with a | a
  .exact f a
  .exact l a)]
 exact b
theorem Dk.row{n:Nat}{v:V_}(b:w.ownsRow B 181 size v n xs)(p:B<=w.heap.size)(h:w.grownBy w' v.ownBlock):Dk B w w':=by
 refine⟨(Br_ _ _).grown h p (fun k a=>(ol_ b k a).1),fun k r t fr a u f=>?_⟩;have q:=(Array.getElem?_eq_some_iff.1 a).1;rw[h.block k q (fun e=>by
  rcases b.2 with ⟨rfl,_⟩ | ⟨g,c,d,rfl,_,l,_⟩
  .cases e
  .cases e;rw[l]at a;cases a;exact f rfl)]
 exact a
theorem Dk.fB{g t:Nat}(h:Dk B w w')(c:dh w g t xs)(a:t≠142)(b:t≠181):dh w' g t xs:=h.jr g _ t _ c a b
theorem Dk.rows{a t n:Nat}{v:V_}(h:Dk B w w')(b:w.ownsRow a t size v n xs)(c:t≠142)(d:t≠181):w'.ownsRow a t size v n xs:=by
 refine⟨b.1,?_⟩;rcases b.2 with h0 | ⟨g,cap,cur,h3,h4,h5,h6⟩
 .exact .inl h0
 .exact .inr ⟨g,cap,cur,h3,h4,h.jr g _ _ _ h5 c d,h6⟩
end
section
variable {B g i j:Nat} {s:Y_} {ns:List aF} {vn vl:V_} {modes down modes' down':Int} {W W':W_}
theorem Dr.lt(h:Dr B g s i ns vn vl modes down W):B<=W.heap.size:=by have:=h.up;have:=bP h.rb;omega
theorem Dr.below(h:Dr B g s i ns vn vl modes down W)(a:B_ W W'):Dr B g s i ns vn vl modes down W':=⟨h.rb.below a,h.up,bW h.own a dF⟩
theorem Dr.fD(h:Dr B g s i ns vn vl modes down W)(a:W.grownBy W' (some g))(b:Db W' g s j vn vl modes' down'):Dr B g s j ns vn vl modes' down' W':=⟨b,h.up,dG h.own h.rb d_ a⟩
theorem Dr.dk(h:Dr B g s i ns vn vl modes down W)(a:W.grownBy W' (some g)):Dk B W W':=.grown h.rb h.up (.inl rfl) a
end
def Z4(v:V_)(g:Nat)(s:Y_)(j:Nat)(vn vl:V_)(modes down:Int)(w:W_)(e:Ending)(w':W_):Prop:=
 e=.returned v/\w.grownBy w' (some g)/\Db w' g s j vn vl modes down
theorem Kc(g i:Nat)(s:Y_)(vn vl:V_)(modes down:Int)(w:W_)(h:Db w g s i vn vl modes down)(q:s.size<=1000)(n:i<s.size)(c:Pu.dN s i≠92) :
  Calls prog 158 #[p_ g] w (Z4 (I_ (Pu.dN s i)) g s (i+1) vn vl modes down w):=by
 have l:=bQ 4 h rfl;have e:=bQ 5 h rfl;have f:=bM h 5;have d:=bL h;clear h;have v:=fun w=>eB s (i:Int) i rfl o_ w;have r:=jJ i;have t:(i:Int)<s.size:=o_;have u:=kZ i;rw[mM n]at c |-
 have bd:=iM s i;generalize bt s i=b at *;have p:(b != 92)=true:=by simpa using c
 clear c;go_in;go_wp2_with fail;go_quiet (fail);have dn:=bd_ (Br_ w.heap.size w) nq;have a:=bL (d.o.below dn);have k:=bL (jZ (some g) dn);clear dn l e f d;generalize w.drewN nq=l at *;have e:=bQ 5 a.o rfl;have f:=bM a.o 5;have d:=bL (a.o.at (i+1));go_wp2;go_ret;exact⟨rfl,k.o.trans (gs_ _ g 5 _),d.o⟩
theorem wU(g i j:Nat)(s:Y_)(vn vl:V_)(modes down v:Int)(w:W_)(h:Db w g s i vn vl modes down)(y:s.size<=1000)(a:Pu.Sg s i j v) :
  Calls prog 158 #[p_ g] w (Z4 (I_ v) g s j vn vl modes down w):=by
 have q:=bQ 4 h rfl;have c:=bQ 5 h rfl;have l:=bM h 5;have k:=bL h;clear h;have t:i<s.size:=by have:=a.lt;have:=a.le;omega
 have A:=fun w=>eB s (i:Int) i rfl o_ w;have E:=jJ i;have F:(i:Int)<s.size:=o_;have I:=kZ i;cases a with
 | plain f d=>exact Kc g i s vn vl modes down w k.o y t d
 | xC f d=>
  have u:i+1<s.size:=Pu.fK (d.ok.ne);rw[mM t]at f;rw[mM u]at d;rw[f]at A;have J:∀w,(Instr.index 9 (.string s) (I_ ((i:Int)+1))).run prog w=.ok (.int .u8 (bt s (i+1))) w:=fun w=>eB s ((i:Int)+1) (i+1) o_ u w;have G:(0:Int)<=i+1:=o_;have H:(i:Int)+1<(s.size:Int):=o_;have z:=yL ((i:Int)+1+1);have bd:=iM s (i+1);generalize bt s (i+1)=b at *;clear f;unfold Q5 at d;rcases d with ⟨e,a⟩ | ⟨e,a⟩ | ⟨e,a⟩;subst a;have C:(v == 110)=false:=by simp;omega
  have D:(v == 115)=false:=by simp;omega
  clear e;rotate_left;subst e a;rotate_left;focus subst e a
  all_goals
   go_in;go_wp2_with fail;go_quiet (fail);have dn:=bd_ (Br_ w.heap.size w) nq;have f:=bL (k.o.below dn);have n:=bL (jZ (some g) dn);clear dn q c l k;generalize w.drewN nq=p at *;have c:=bQ 5 f.o rfl;have l:=bM f.o 5;have k:Hid (Db (p.setCell (a_ g 5) (I_ ((i:Int)+1))) g s (i+1) vn vl modes down):=f.o.at (i+1);have r:=bL (n.o.trans (gs_ p g 5 (I_ ((i:Int)+1))));go_upto_region 5 with (fail);clear c l f n;generalize p.setCell (a_ g 5) (I_ ((i:Int)+1))=f at *;have q:=bQ 4 k.o rfl;have c:f.cell? (a_ g 5)=some (I_ ((i:Int)+1)):=bN (j:=5) k.o rfl;go_wp2_with fail;go_quiet (fail);have dn:=bd_ (Br_ f.heap.size f) nq;have n:=bL (k.o.below dn);have x:=bL (r.o.trans (jZ (some g) dn));clear dn q c k r;generalize f.drewN nq=k at *;have c:k.cell? (a_ g 5)=some (I_ ((i:Int)+1)):=bN (j:=5) n.o rfl;have l:=bM n.o 5;have q:Hid (Db (k.setCell (a_ g 5) (I_ ((i:Int)+1+1))) g s (i+2) vn vl modes down):=n.o.at (i+2);go_wp2;go_ret;exact⟨rfl,x.o.trans (gs_ _ g 5 _),q.o⟩
theorem XW(x:aF):Instr.fill (fun i=>some (i*259,259)) ((Array.range (1*259)).map fun j=>((Value.agg zm.toArray).cells)[j % (Value.agg zm.toArray).cells.size]!) [(0,.agg (dS x).toArray)]=some (dS x).toArray:=by rw[sP];have a:=iA x;have:=vI (fun i=>some (i*259,259)) (dS x) ((List.range (1*259)).map fun j=>((Value.agg zm.toArray).cells)[j % (Value.agg zm.toArray).cells.size]!) (by rw[a]) (by rw[a,lm_,List.length_range];omega);rw[a,List.drop_of_length_le (by rw[lm_,List.length_range];omega),List.append_nil]at this;exact this
def aaa(B g:Nat)(s:Y_)(i:Nat)(n:Nat)(ns:List aF)(vl:V_)(modes down:Int)(w:W_)(e:Ending)(w':W_):Prop:=
 e=.returned (I_ n)/\Dk B w w'/\∃vn,Dr B g s i ns vn vl modes down w'
theorem pq(B g i:Nat)(s:Y_)(ns:List aF)(vn vl:V_)(modes down:Int)(x:aF)(w:W_)(h:Dr B g s i ns vn vl modes down w)(hl:ns.length<=10000) :
  Calls prog 134 #[p_ g,.agg (dS x).toArray] w (aaa B g s i ns.length (ns++[x]) vl modes down w):=by
 obtain⟨R,Q,q,r,H⟩:=ip_ Cu;obtain⟨F,G,rfl,o1,o2⟩:=eO h.own;have U:=h.lt;have a:=(Br_ w.heap.size w).alloc dF (c_ (dS x).toArray 181);have z:=bL (h.below a);have Y:Hid (Dk B w (w.alloc (c_ (dS x).toArray 181))):=.below U a;have D:Hid (dh (w.alloc (c_ (dS x).toArray 181)) w.heap.size 181 (dS x)):=hn_ _ _;have E:Hid (some w.heap.size≠(Value.slice F ns.length G).ownBlock):=fun e=>by have:=(ol_ h.own _ e.symm).2;omega
 have gl:=bP h.rb;have c1:=bQ 1 z.o.rb rfl;clear h a;go_in;go_wp2_with fail;generalize w.alloc (c_ (dS x).toArray 181)=b at *;generalize w.heap.size=gx at *;have a:=((Br_ b.heap.size b).alloc dF (c_ (dS x).toArray 181)).drew;have c:=bL (z.o.below a);have V:Hid (Dk B b (b.alloc (c_ (dS x).toArray 181)).drew):=.below z.o.lt a;have f:=bL (bO D.o a (bP D.o));have l:B<=(b.alloc (c_ (dS x).toArray 181)).drew.heap.size:=c.o.lt;have S1:b.drew.rangeAt gx 0 (dS x):=eQ (W:=b.drew) D.o;have J:(b.alloc (c_ (dS x).toArray 181)).drew.rangeAt gx 0 (dS x):=eQ f.o;have rl:=bP z.o.rb;have ne1:g≠b.heap.size:=o_;have uC:b.heap.size≠g:=o_;clear a;refine wd_ (S:=fun w'=>w'.rangeAt gx 0 (dS x)) k_ S1 (fun L=>?_);refine cB 0 ?_;refine cB 1 ?_;refine cB 2 ?_;refine cB 3 ?_;refine wpAnyH_take (i:=5) (v:=(.agg (dS x).toArray)) rfl k_ k_ k_ (fun _ _ _ h=>h) (yieldsIf_load_mid r_ 181 (.tmp 3) rfl gx 0 rfl (dS x) _ (fun _ a=>a) underlying181 rfl (by rw[iA];exact iH)) y_ ?_
 try simp only[oQ,Act.put]
 refine yz 4 6 (fun K a=>?_) (fun K a=>?_);focus
  go_simp;refine a.out _ _ L (fun O=>?_);clear a K
  try simp only[oQ,Act.put]
  refine fF 6 (fun K a=>?_)
 rotate_left;have c2':=bN (j:=1) c.o.rb rfl;rotate_left;all_goals
  refine fG 139 181 0 (.tmp 10) (.agg (dS x).toArray) rfl rfl (dS x).toArray R _ 259 underlying139 Q q r o_ o_ (XW x) ?_
 rotate_left;focus
  refine a.out _ _ J (fun O=>?_);clear a K
  try simp only[oQ,Act.put]
  refine fF 4 (fun K a=>?_);go_simp
 all_goals
  refine a.out _ _ J (fun lT=>?_);clear a K
  try simp only[oQ,Act.put]
  refine fF 7 (fun K a=>?_);refine sa_ _ r_ _ _ _ r_ B 181 R _ 259 280 underlying139 Q q r H (by simp[Value.cells,wR]) o_ (.slice F ns.length G) ns.length (ndC ns) r_ c.o.own (a_ b.heap.size 0) 1 1 (dS x) r_ (by rw[iA]) (World.news_of_block (cs:=(dS x).toArray) (t:=181) (fr:=(0,0)) (hn_ _ _)) (jf x) o_ (by unfold maxLen;omega) o_ l (b.heap.size+1) i_ ?_;intro p n u N C d e;clear d e;have I:=Dk.row c.o.own l C;have k:Db u g s i (.slice F ns.length G) vl modes down:=dZ c.o.own c.o.rb d_ C;have A:=bR f.o C E.o;refine a.out _ _ (eQ A) (fun kT=>?_);have k5:=bQ 1 k rfl;have Z:=bM k 1;clear a K
  try simp only[oQ,Act.put]
  refine cB 8 ?_;refine cB 9 ?_;refine fF 10 (fun K a=>?_);go_simp;have d:=gs_ u g 1 (s_ p (ns.length+1) n);have y:=bR A d (fun e=>dI A k d_ (oi_ e));refine a.out _ _ (eQ y) (fun nX=>?_);clear a K;refine wpAnyH_done k_ ?_ _;have X:Hid (Dk B w (u.setCell (a_ g 1) (s_ p (ns.length+1) n))):=(Y.o.trans (V.o.trans I)).trans (.grown k c.o.up (.inl rfl) d);have e:Hid (Dr B g s i (ns++[x]) (s_ p (ns.length+1) n) vl modes down (u.setCell (a_ g 1) (s_ p (ns.length+1) n))):=by refine⟨k.nodes _,c.o.up,?_⟩;have:=dG N k d_ d;rw[Tm,aeL,la_];exact this
  clear L O lT kT nX k A y k5 Z N C I d c f;generalize u.setCell (a_ g 1) (s_ p (ns.length+1) n)=c at *;have d:=bQ 1 e.o.rb rfl;have f:IntKind.i64.wrap ((ns.length:Int)+1-1)=(ns.length:Int):=by rw[oD _ o_ o_];omega
  go_wp2;go_ret;exact⟨rfl,X.o,_,e.o⟩
namespace Pu
theorem Sg.bd{s:Y_}{i j:Nat}{v:Int}(h:Sg s i j v):0<=v/\v<=255/\dN s i≠93:=by
 cases h with
 | plain b a=>have:=TD s i;omega
 | xC b a=>have:=TD s (i+1);unfold Q5 at a;omega
theorem ay.bd{s:Y_}{i j:Nat}{lo b:Int}{r:Bool}(h:ay s i j lo b r):0<=lo/\lo<=255/\0<=b/\b<=255/\dN s i≠93:=by
 cases h with
 | one a _=>have:=a.bd;omega
 | range a _ c=>have:=a.bd;have:=c.bd;omega
theorem aj.beg{s:Y_}{i k:Nat}{T c:Nat->Bool}{D b:Bool}(h:aj s i T D k c b):dN s i≠93/\i<s.size/\k<=s.size:=by
 induction h with
 | done a d=>exact⟨a.bd.2.2.2.2,by have:=a.lt;have:=a.le;omega,fK (s:=s) (by rw[d];decide)⟩
 | more a _ _ e=>exact⟨a.bd.2.2.2.2,by have:=a.lt;have:=a.le;omega,e.2.2⟩
def dX(a:Int)(D:Bool)(down:Int):Int:=if D=true/\down<0 then a else down
theorem zh(a down:Int):dX a false down=down:=by unfold dX;rw[if_neg i_]
theorem MJ{a:Int}(h:0<=a)(D b:Bool)(down:Int):dX a b (dX a D down)=dX a (D || b) down:=by
 unfold dX;cases D <;> cases b <;> simp
 split <;> omega
theorem pF(T:Nat->Bool){lo a:Int}(h:a<lo):wid T lo a=T:=by
 funext n;unfold wid;have:¬(lo<=(n:Int)/\(n:Int)<=a):=o_;cases hT:T n
 .simp only[Bool.false_or];rw[<-Bool.decide_and];exact dn_ this
 .rfl
theorem Ia(T:Nat->Bool)(lo:Int)(c:Nat)(h:lo<=(c:Int)):(fun n=>if n=c then true else wid T lo ((c:Int)-1) n)=wid T lo (c:Int):=by
 funext n;unfold wid;by_cases e:n=c
 .subst e;simp[h]
 .rw [if_neg e];congr 1;congr 1;have:((n:Int)<=c-1)↔((n:Int)<=c):=o_;exact decide_eq_decide.2 this
end Pu
theorem Qc{w w':W_}{base e n g:Nat}{v:V_}(h:w.ownsRow base e size v n xs)(a:some g≠v.ownBlock)(b:w.grownBy w' (some g)):w'.ownsRow base e size v n xs:=by
 refine⟨h.1,?_⟩;rcases h.2 with h0 | ⟨g',cap,cur,h1,h2,h3,h4⟩
 .exact .inl h0
 .refine .inr ⟨g',cap,cur,h1,h2,?_,h4⟩;have c:=(Array.getElem?_eq_some_iff.1 h3).1;rw[b.block g' c (fun e=>a (by rw[<-e,h1];rfl))];exact h3
theorem Dk.fresh{B g:Nat}{w f l:W_}(h:Dk B w f)(c:f.grownBy l (some g))(r:w.heap.size<=g)(p:B<=w.heap.size):Dk B w l:=by refine⟨h.lo.grown c (lt_ p h.lo.size) (fun k e=>by cases e;omega),fun k n t fr d a b=>?_⟩;have q:=(Array.getElem?_eq_some_iff.1 d).1;have:=h.jr k n t fr d a b;rw[c.block k (Nat.lt_of_lt_of_le q h.lo.size) (fun e=>by cases e;omega)];exact this
theorem Dp(k:Int):prog.built 181 [(0,I_ k)]=some (I_ k::I_ 0::I_ 0::dD Pu.dW).toArray:=by
 rw[<-vE];kernel_rfl
theorem ym(k l:Int):prog.built 181 [(0,I_ k),(1,I_ l)]=some (I_ k::I_ l::I_ 0::dD Pu.dW).toArray:=by
 rw[<-vE];kernel_rfl
theorem Dq(k l r:Int):prog.built 181 [(0,I_ k),(1,I_ l),(2,I_ r)]=some (I_ k::I_ l::I_ r::dD Pu.dW).toArray:=by
 rw[<-vE];kernel_rfl
structure DC(B g:Nat)(s:Y_)(j:Nat)(ns:List aF)(vn vl:V_)(modes down:Int)(w:W_)(gx:Nat)(T:Nat->Bool)(W:W_):Prop where
 dr:Dr B g s j ns vn vl modes down W
 dk:Dk B w W
 x:dh W gx 181 (dS ⟨1,0,0,T⟩)
 ap:w.heap.size<=gx/\B<=w.heap.size/\some gx≠vn.ownBlock/\g≠gx
section
variable {B g:Nat} {s:Y_} {j j':Nat} {ns:List aF} {vn vl:V_} {modes down down':Int} {w:W_} {gx:Nat} {T:Nat->Bool} {W W':W_}
theorem DC.below(h:DC B g s j ns vn vl modes down w gx T W)(a:B_ W W'):DC B g s j ns vn vl modes down w gx T W':=
 ⟨h.dr.below a,h.dk.trans (.below h.dr.lt a),bO h.x a (bP h.x),h.ap⟩
theorem DC.fD(h:DC B g s j ns vn vl modes down w gx T W)(a:W.grownBy W' (some g))(b:Db W' g s j' vn vl modes down'):DC B g s j' ns vn vl modes down' w gx T W':=
 ⟨h.dr.fD a b,h.dk.trans (h.dr.dk a),bR h.x a (fun e=>h.ap.2.2.2 (oi_ e).symm),h.ap⟩
theorem ab2(T:Nat->Bool)(c:Nat)(b:Bool):(dS ⟨1,0,0,T⟩).set (3+c) (.bool b)=dS ⟨1,0,0,fun n=>if n=c then b else T n⟩:=by unfold dS;rw[(o_:3+c=c+1+1+1),ss_,ss_,ss_,Jj]
theorem DC.bit(h:DC B g s j ns vn vl modes down w gx T W)(c:Nat)(b:Bool):DC B g s j ns vn vl modes down w gx (fun n=>if n=c then b else T n) (W.setCell (a_ gx (3+c)) (.bool b)):=by have a:=gs_ W gx (3+c) (.bool b);refine⟨⟨bU h.dr.rb h.ap.2.2.2 _ _,h.dr.up,Qc h.dr.own h.ap.2.2.1 a⟩,h.dk.fresh a h.ap.1 h.ap.2.1,?_,h.ap⟩;have:=cK h.x (3+c) (.bool b);rw[ab2]at this;exact this
theorem DC.new(h:Dr B g s j ns vn vl modes down W)(b:Dk B w W)(c:B<=w.heap.size):DC B g s j ns vn vl modes down w W.heap.size Pu.dW ((W.alloc (c_ zm.toArray 181)).setCells W.heap.size 0 (dS ⟨1,0,0,Pu.dW⟩)):=by have d:dh (W.alloc (c_ zm.toArray 181)) W.heap.size 181 zm:=hn_ _ _;have a:B_ W ((W.alloc (c_ zm.toArray 181)).setCells W.heap.size 0 (dS ⟨1,0,0,Pu.dW⟩)):=lh (g:=W.heap.size) dF _ 0 _ ((Br_ W.heap.size W).alloc dF _);exact⟨h.below a,b.trans (.below h.lt a),pO _ d (by rw[wR,iA]),b.lo.size,c,fun e=>by have:=(ol_ h.own _ e.symm).2;omega,by have:=bP h.rb;omega⟩
theorem DC.there(h:DC B g s j ns vn vl modes down w gx T W):W.rangeAt gx 0 (dS ⟨1,0,0,T⟩):=eQ h.x
end
theorem jC{W:W_}(x:aF):(W.alloc (c_ zm.toArray 181)).there W.heap.size 0 (dS x).toArray.size:=by have a:dh (W.alloc (c_ zm.toArray 181)) W.heap.size 181 zm:=hn_ _ _;have:=mq a;rw[wR]at this;simpa [iA]using this
theorem nk(x:aF):(prog.info? 181).map (·.size)=some (dS x).toArray.size:=by rw[List.size_toArray,iA];exact iH
end Go.Proofs.YtmccnmgaoppogabGreat
