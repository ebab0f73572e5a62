import Derived.Test.YtmccnmgaoppogabGreatuE3A
import Derived.Lib.BufferOwn
import Derived.OwnWalk
import Derived.Great.BuildSlice
import Derived.Deep.RegionLaw
namespace Go.Proofs.YtmccnmgaoppogabGreat
open Pu
set_option linter.all false
open Go.Proofs.Tryz Tryz
set_option maxRecDepth 100000
set_option maxHeartbeats 8000000
open Go.RowKit
variable {W w:W_} {v:V_} {base g n size t:Nat} {xs ys:List V_} {qs:List (Pu.aJ × V_)}
def rdC(s:Y_)(i:Nat)(vp:V_)(d:Bool):List V_:=[.string s,I_ i,vp,.bool d]
def Rb(W:W_)(g:Nat)(s:Y_)(i:Nat)(vp:V_)(d:Bool):Prop:=dh W g 199 (rdC s i vp d)
theorem jZ{w':W_}(g:Option Nat)(a:B_ w w'):w.grownBy w' g:=⟨a.os,a.tape,a.output,a.size,fun k b _=>a.block k b⟩
section
variable {W W':W_} {g i:Nat} {s:Y_} {vp:V_} {d:Bool}
theorem Rb.lt(h:Rb W g s i vp d):g<W.heap.size:=bP h
theorem Rb.below(h:Rb W g s i vp d)(a:B_ W W'):Rb W' g s i vp d:=bO h a (bP h)
theorem Rb.at(h:Rb W g s i vp d)(j:Nat):Rb (W.setCell (a_ g 1) (I_ j)) g s j vp d:=cK h 1 _
theorem Rb.down(h:Rb W g s i vp d):Rb (W.setCell (a_ g 3) (.bool true)) g s i vp true:=cK h 3 _
end
theorem mK(g i:Nat)(s:Y_)(vp:V_)(d:Bool)(w:W_)(h:Rb w g s i vp d) :
  Calls prog 143 #[p_ g] w (mY (I_ (Pu.dN s i)) w):=by
 have e:=bQ 0 h rfl;have f:=bQ 1 h rfl;clear h;go_in;by_cases c:i<s.size
 .have a:decide ((s.size:Int)<=i)=false:=dn_ o_;have p:=fun w=>eB s (i:Int) i rfl o_ w;have k:=jJ i;have l:(i:Int)<s.size:=o_;have j:=iM s i;rw[mM c];generalize bt s i=b at *;go_wp2_with fail;go_quiet (fail);go_wp2_with fail;go_quiet (fail);go_wp2;go_ret;exact⟨rfl,bd_ (bd_ (Br_ _ _) _) _⟩
 .have a:decide ((s.size:Int)<=i)=true:=dt_ o_;rw[aeW o_];go_wp2_with fail;go_quiet (fail);go_wp2;go_ret;exact⟨rfl,bd_ (Br_ _ _) _⟩
def kI(v:V_)(g:Nat)(s:Y_)(j:Nat)(vp:V_)(d:Bool)(w:W_)(e:Ending)(w':W_):Prop:=
 e=.returned v/\w.grownBy w' (some g)/\Rb w' g s j vp d
theorem pE(g i:Nat)(s:Y_)(vp:V_)(d:Bool)(b:Int)(w:W_)(h:Rb w g s i vp d)(q:i<=1000000) :
  Calls prog 127 #[p_ g,I_ b] w (kI (.bool (decide (Pu.dN s i=b))) g s (if Pu.dN s i=b then i+1 else i) vp d w):=by
 have a:=bL (mK g i s vp d w h);have k:=bL h;clear h;by_cases c:Pu.dN s i=b;rw[if_pos c,dt_ c];rw[c]at a;clear c;rotate_left;rw[if_neg c,dn_ c];generalize Pu.dN s i=p at *;have r:(p != b)=true:=by simpa using c
 rotate_left;all_goals
  go_in;go_wp2_with fail;refine a.o.mono ?_;clear a;rintro e u ⟨rfl,a⟩;have f:=bL (k.o.below a);have j:=bL (jZ (some g) a);clear a k
 .have k:=bQ 1 f.o rfl;have l:=bM f.o 1;have x:=kZ i;have a:=bL (f.o.at (i+1));go_wp2;go_ret;exact⟨rfl,j.o.trans (gs_ _ g 1 _),a.o⟩
 .go_wp2;go_ret;exact⟨rfl,j.o,f.o⟩
namespace Pu
theorem gZ.ne{b:Int}(h:gZ b):b≠-1:=by unfold gZ at h;omega
theorem gZ.xC{b:Int}(h:gZ b):∃v,Q5 b v:=by
 unfold gZ at h;unfold Q5;rcases h with h | h | h
 .exact⟨b,.inl ⟨h,rfl⟩⟩
 .exact⟨10,.inr (.inl ⟨h,rfl⟩)⟩
 .exact⟨32,.inr (.inr ⟨h,rfl⟩)⟩
theorem Sg.le{s:Y_}{i j:Nat}{v:Int}(h:Sg s i j v):j<=s.size:=by
 cases h with
 | plain a _=>exact fK (fun e=>a (.inr (.inr (.inr (.inr e)))))
 | xC _ b=>exact fK (b.ok.ne)
theorem SgF.le{s:Y_}{i j:Nat}(h:SgF s i j)(b:i<=s.size):j<=s.size:=by
 cases h with
 | plain _=>exact b
 | xC a _=>exact fK (s:=s) (i:=i) (by rw[a];decide)
theorem ay.le{s:Y_}{i j:Nat}{v u:Int}{r:Bool}(h:ay s i j v u r):j<=s.size:=by
 cases h with
 | one a _=>exact a.le
 | range _ _ b=>exact b.le
theorem Zo.le{s:Y_}{i j:Nat}(h:Zo s i j)(e:i<=s.size):j<=s.size:=by
 cases h with
 | one a=>exact a.le e
 | range _ b c=>exact c.le (fK (s:=s) (by rw[b];decide))
end Pu
theorem Jv(g i:Nat)(s:Y_)(vp:V_)(d:Bool)(v:Int)(w:W_)(h:Rb w g s i vp d)(x:i<=100000)(f:Pu.dN s i=92)(r:Q5 (Pu.dN s (i+1)) v) :
  Calls prog 170 #[p_ g] w (kI (.tuple #[I_ v,.bool true]) g s (i+2) vp d w):=by
 have q:=bL (pE g i s vp d 92 w h o_);rw[if_pos f,dt_ f]at q;have u:=bL (fun c (a:Rb c g s (i+1) vp d)=>mK g (i+1) s vp d c a);clear h f;have z:IntKind.i64.wrap (((i+1:Nat):Int)+1)=((i+2:Nat):Int):=by rw[oD _ o_ o_];omega
 unfold Q5 at r;generalize Pu.dN s (i+1)=p at *;rcases r with ⟨h | h | h | h | h | h | h | h | h | h | h | h,e⟩ | ⟨h,e⟩ | ⟨h,e⟩;all_goals
  subst h e;go_in;go_wp2_with fail;refine q.o.mono ?_;rintro e c ⟨rfl,b,a⟩;have j:=bL b;have l:=bL (u.o c a);have k:=bL a;clear b a;go_wp2_with fail;refine l.o.mono ?_;clear l;rintro e y ⟨rfl,a⟩;have b:=bL (k.o.below a);have l:=bL (j.o.trans (jZ (some g) a));clear a j k;have j:=bQ 1 b.o rfl;have k:=bM b.o 1;have a:=bL (b.o.at (i+2));go_wp2;go_ret2;exact⟨rfl,l.o.trans (gs_ _ g 1 _),a.o⟩
theorem Ju(g i:Nat)(s:Y_)(vp:V_)(d:Bool)(w:W_)(h:Rb w g s i vp d)(D:i<=100000)(f:Pu.dN s i=92)(u:¬gZ (Pu.dN s (i+1))) :
  Calls prog 170 #[p_ g] w (kI (.tuple #[I_ 0,.bool false]) g s (i+1) vp d w):=by
 have q:=bL (pE g i s vp d 92 w h o_);rw[if_pos f,dt_ f]at q;have r:=bL (fun c (a:Rb c g s (i+1) vp d)=>mK g (i+1) s vp d c a);clear h f;unfold gZ at u;generalize Pu.dN s (i+1)=p at *;have n1:(p == 40)=false:=by simp;omega
 have E:(p == 41)=false:=by simp;omega
 have F:(p == 91)=false:=by simp;omega
 have G:(p == 93)=false:=by simp;omega
 have H:(p == 42)=false:=by simp;omega
 have I:(p == 43)=false:=by simp;omega
 have J:(p == 63)=false:=by simp;omega
 have K:(p == 124)=false:=by simp;omega
 have L:(p == 46)=false:=by simp;omega
 have x:(p == 92)=false:=by simp;omega
 have y:(p == 45)=false:=by simp;omega
 have z:(p == 94)=false:=by simp;omega
 have A:(p == 110)=false:=by simp;omega
 have C:(p == 115)=false:=by simp;omega
 go_in;go_wp2_with fail;refine q.o.mono ?_;rintro e c ⟨rfl,b,a⟩;have j:=bL b;have l:=bL (r.o c a);have k:=bL a;clear b a;go_wp2_with fail;refine l.o.mono ?_;clear l;rintro e N ⟨rfl,a⟩;have l:=bL (k.o.below a);have b:=bL (j.o.trans (jZ (some g) a));clear a j k;go_wp2;go_ret2;exact⟨rfl,b.o,l.o⟩
def Nw(g:Nat)(s:Y_)(i:Nat)(vp:V_)(d:Bool)(w:W_)(e:Ending)(w':W_):Prop:=
 (∃j v,Pu.Sg s i j v/\kI (.tuple #[I_ v,.bool true]) g s j vp d w e w')\/(∃j,Pu.SgF s i j/\kI (.tuple #[I_ 0,.bool false]) g s j vp d w e w')
theorem Qp(g i:Nat)(s:Y_)(vp:V_)(d:Bool)(w:W_)(h:Rb w g s i vp d)(z:i<=s.size)(A:s.size<=1000) :
  C_ 173 #[p_ g] w (Nw g s i vp d w):=by
 have j:=bL (mK g i s vp d w h);have l:=bL h;have H:IntKind.i64.wrap ((i:Int)+1)=((i+1:Nat):Int):=by rw[oD _ o_ o_];omega
 by_cases u:Pu.dN s i=93\/Pu.dN s i=45\/Pu.dN s i=32\/Pu.dN s i=10\/Pu.dN s i=-1
 .have b:Hid (∀e w',kI (.tuple #[I_ 0,.bool false]) g s i vp d w e w'->Nw g s i vp d w e w'):=fun e w' k=>.inr ⟨i,.plain u,k⟩;clear h;generalize Pu.dN s i=p at *;rcases u with h | h | h | h | h;all_goals
   subst h;go_enter func173,ntmps173;go_wp2_with fail;refine j.o.mono ?_;clear j;rintro e f ⟨rfl,a⟩;have q:=bL (l.o.below a);have k:=bL (jZ (some g) a);clear a l;go_wp2;go_ret2;exact b.o _ _ ⟨rfl,k.o,q.o⟩
 .by_cases c:Pu.dN s i=92
  .have y:=Pu.fK (s:=s) (i:=i) (by rw[c];decide);rw[c]at j;by_cases r:gZ (Pu.dN s (i+1));obtain⟨v,q⟩:=r.xC;have p:=bL (fun f (a:Rb f g s i vp d)=>Jv g i s vp d v f a o_ c q);have b:Hid (∀e w',kI (.tuple #[I_ v,.bool true]) g s (i+2) vp d w e w'->Nw g s i vp d w e w'):=fun e w' k=>.inl ⟨i+2,v,.xC c q,k⟩;clear h u c r q;rotate_left;focus
    have p:=bL (fun f (a:Rb f g s i vp d)=>Ju g i s vp d f a o_ c r);have b:Hid (∀e w',kI (.tuple #[I_ 0,.bool false]) g s (i+1) vp d w e w'->Nw g s i vp d w e w'):=fun e w' k=>.inr ⟨i+1,.xC c r,k⟩;clear h u c r
   all_goals
    go_enter func173,ntmps173;go_wp2_with fail;refine j.o.mono ?_;clear j;rintro e f ⟨rfl,a⟩;have q:=bL (p.o f (l.o.below a));have k:=bL (jZ (some g) a);clear a l p;go_wp2_with fail;refine q.o.mono ?_;clear q;rintro e C ⟨rfl,a,p⟩;have q:=bL (k.o.trans a);have x:=bL p;clear a p k;go_wp2;go_ret2;exact b.o _ _ ⟨rfl,q.o,x.o⟩
  .have b:Hid (∀e w',kI (.tuple #[I_ (Pu.dN s i),.bool true]) g s (i+1) vp d w e w'->Nw g s i vp d w e w'):=fun e w' k=>.inl ⟨i+1,_,.plain u c,k⟩;clear h;generalize Pu.dN s i=p at *;have n1:(p == 93)=false:=by simp;omega
   have C:(p == 45)=false:=by simp;omega
   have D:(p == 32)=false:=by simp;omega
   have E:(p == 10)=false:=by simp;omega
   have F:(p == -1)=false:=by simp;omega
   have G:(p == 92)=false:=by simp;omega
   go_enter func173,ntmps173;go_wp2_with fail;refine j.o.mono ?_;clear j;rintro e f ⟨rfl,a⟩;have q:=bL (l.o.below a);have k:=bL (jZ (some g) a);clear a l;have x:=bQ 1 q.o rfl;have y:=bM q.o 1;have a:=bL (q.o.at (i+1));go_wp2;go_ret2;exact b.o _ _ ⟨rfl,k.o.trans (gs_ _ g 1 _),a.o⟩
def aiH(g:Nat)(s:Y_)(i:Nat)(vp:V_)(d:Bool)(w:W_)(e:Ending)(w':W_):Prop:=
 (∃j lo a r,ay s i j lo a r/\kI (.tuple #[I_ lo,I_ a,.bool true]) g s j vp (d || decide (a<lo)) w e w')\/(∃j x y,Zo s i j/\kI (.tuple #[I_ x,I_ y,.bool false]) g s j vp d w e w')
theorem abx(g i:Nat)(s:Y_)(vp:V_)(d:Bool)(w:W_)(h:Rb w g s i vp d)(I:i<=s.size)(G:s.size<=1000) :
  Calls prog 171 #[p_ g] w (aiH g s i vp d w):=by
 have b:=bL (Qp g i s vp d w h I G);clear h;go_in;go_wp2_with fail;refine b.o.mono ?_;clear b;rintro e K (⟨j,v,b,rfl,c,z⟩ | ⟨j,b,rfl,c,z⟩)
 .have Q:=b.le;have f:=bL (pE g j s vp d 45 K z o_);have p:=bL c;have x:=bL b;clear c z b;by_cases a:Pu.dN s j=45;rw[if_pos a,dt_ a]at f;have J:=Pu.fK (s:=s) (i:=j) (by rw[a];decide);rotate_left;rw[if_neg a,dn_ a]at f;have IT:Hid (ay s i j v v false):=.one x.o a;clear a x;rotate_left;all_goals
   go_wp2_with fail;refine f.o.mono ?_;clear f;rintro e L ⟨rfl,l,D⟩
  .have f:=bL (Qp g (j+1) s vp d L D o_ G);have q:=bL (p.o.trans l);clear l D p;go_wp2_with fail;refine f.o.mono ?_;clear f;rintro e R (⟨k,u,y,rfl,f,A⟩ | ⟨k,y,rfl,f,A⟩)
   .have C:=bL (q.o.trans f);have r:=bL A;have IT:Hid (ay s i k v u true):=.range x.o a y;clear f A y q x;by_cases F:u<v
    .have E:decide (u<v)=true:=dt_ F;have O:=bM r.o 3;have N:=bQ 3 r.o rfl;have H:=bL r.o.down;go_wp2;go_ret3;exact .inl ⟨k,v,u,true,IT.o,rfl,C.o.trans (gs_ _ g 3 _),by rw[E,Bool.or_true];exact H.o⟩
    .have E:decide (u<v)=false:=dn_ F;go_wp2;go_ret3;exact .inl ⟨k,v,u,true,IT.o,rfl,C.o,by rw[E,Bool.or_false];exact r.o⟩
   .have C:=bL (q.o.trans f);have r:=bL A;have IT:Hid (Zo s i k):=.range x.o a y;clear f A y q x;go_wp2;go_ret3;exact .inr ⟨k,v,0,IT.o,rfl,C.o,r.o⟩
  .have q:=bL (p.o.trans l);have f:=bL D;clear l D p;go_wp2;go_ret3;exact .inl ⟨j,v,v,false,IT.o,rfl,q.o,by simpa using f.o⟩
 .have p:=bL c;have f:=bL z;have IT:Hid (Zo s i j):=.one b;clear c z b;go_wp2;go_ret3;exact .inr ⟨j,0,0,IT.o,rfl,p.o,f.o⟩
structure Rk(B:Nat)(w w':W_):Prop where
 lo:Below B w w'
 jr:∀(k:Nat) (cs:Array V_) (t:TypeId) (fr:Nat × Nat),w.heap[k]?=some (c_ cs t fr)->t≠199->t≠248->w'.heap[k]?=some (c_ cs t fr)
section
variable {B:Nat} {w w' w'':W_}
theorem Rk.refl(B:Nat)(w:W_):Rk B w w:=⟨Br_ _ _,fun _ _ _ _ h _ _=>h⟩
theorem Rk.trans(h:Rk B w w')(b:Rk B w' w''):Rk B w w'':=⟨h.lo.trans b.lo,fun k a t fr f c e=>b.jr k a t fr (h.jr k a t fr f c e) c e⟩
theorem Rk.below(b:B<=w.heap.size)(h:B_ w w'):Rk B w w':=⟨h.mono b,fun k e t fr a _ _=>by
 have c:=(Array.getElem?_eq_some_iff.1 a).1;rw[h.block k c];exact a⟩
theorem Rk.alloc(a:B<=w.heap.size)(o:Obj):Rk B w (w.alloc o):=.below a (kM o)
theorem Rk.grown{g f:Nat}{xs:List V_}(c:dh w g f xs)(p:B<=g)(a:f=199\/f=248)(h:w.grownBy w' (some g)):Rk B w w':=by
 refine⟨(Br_ _ _).grown h (by have:=bP c;omega) (fun k e=>by cases e;exact p),fun k r t fr b j l=>?_⟩;have q:=(Array.getElem?_eq_some_iff.1 b).1;rw[h.block k q (fun e=>by
  cases e;unfold dh at c;rw[c]at b;cases b;rcases a with a | a
  .exact j a
  .exact l a)]
 exact b
theorem Rk.row(b:w.ownsRow B 248 size v n xs)(p:B<=w.heap.size)(h:w.grownBy w' v.ownBlock):Rk B w w':=by
 refine⟨(Br_ _ _).grown h p (fun k a=>(ol_ b k a).1),fun k r t fr a u j=>?_⟩;have q:=(Array.getElem?_eq_some_iff.1 a).1;rw[h.block k q (fun e=>by
  rcases b.2 with ⟨rfl,_⟩ | ⟨g,c,f,rfl,_,l,_⟩
  .cases e
  .cases e;rw[l]at a;cases a;exact j rfl)]
 exact a
theorem Rk.fB(h:Rk B w w')(c:dh w g t xs)(a:t≠199)(b:t≠248):dh w' g t xs:=h.jr g _ t _ c a b
theorem Rk.jK{l:List Nat}(h:Rk B w w')(a:fe w v l):fe w' v l:=by
 refine⟨a.1,?_⟩;rcases a.2 with h0 | ⟨g,cap,cur,h1,h2,h3,h4⟩
 .exact .inl h0
 .exact .inr ⟨g,cap,cur,h1,h2,h.jr g _ _ _ h3 d_ d_,h4⟩
end
def VI(qs:List (Pu.aJ × V_)):List V_:=qs.flatMap (fun q=>dD q.1.takes++[q.2])
theorem tZ(q:Pu.aJ × V_)(r:List (Pu.aJ × V_)):VI (q::r)=(dD q.1.takes++[q.2])++VI r:=rfl
theorem TF(a b:List (Pu.aJ × V_)):VI (a++b)=VI a++VI b:=by simp[VI]
theorem sF(q:Pu.aJ × V_):(dD q.1.takes++[q.2]).length=257:=by rw[la_,cZ];rfl
theorem GU{p:Nat}{q:Pu.aJ × V_}(h:qs[p]?=some q):(VI qs)[p*257+256]?=some q.2:=by
 induction qs generalizing p with
 | nil=>simp at h
 | cons z r a=>
  rw[tZ];cases p with
  | zero=>rw[List.getElem?_cons_zero]at h;cases h;rw[Nat.zero_mul,Nat.zero_add,al_ (by rw[sF];omega),ar_ (by rw[cZ];omega),cZ];rfl
  | succ p=>rw[cs_]at h;rw[ar_ (by rw[sF];omega),sF,(o_:(p+1)*257+256-257=p*257+256)];exact a h
theorem aci{p b:Nat}{q:Pu.aJ × V_}(h:qs[p]?=some q)(a:b<256):(VI qs)[p*257+b]?=some (.bool (q.1.takes b)):=by
 induction qs generalizing p with
 | nil=>simp at h
 | cons z r c=>
  rw[tZ];cases p with
  | zero=>rw[List.getElem?_cons_zero]at h;cases h;rw[Nat.zero_mul,Nat.zero_add,al_ (by rw[sF];omega),al_ (by rw[cZ];exact a)];exact iq _ a
  | succ p=>rw[cs_]at h;rw[ar_ (by rw[sF];omega),sF,(o_:(p+1)*257+b-257=p*257+b)];exact c h
theorem aeX{p:Nat}{q:Pu.aJ × V_}(h:qs[p]?=some q)(v:V_)(nx:List Nat):(VI qs).set (p*257+256) v=VI (qs.set p ({ q.1 with next:=nx },v)):=by
 induction qs generalizing p with
 | nil=>simp at h
 | cons z r a=>
  cases p with
  | zero=>rw[List.getElem?_cons_zero]at h;cases h;rw[sz_,tZ,tZ,Nat.zero_mul,Nat.zero_add,List.set_append_left _ _ (by rw[sF];omega),List.set_append_right _ _ (by rw[cZ];omega),cZ];rfl
  | succ p=>rw[cs_]at h;rw[ss_,tZ,tZ,List.set_append_right _ _ (by rw[sF];omega),sF,(o_:(p+1)*257+256-257=p*257+256),a h]
theorem dG{w':W_}{e:Nat}(h:w.ownsRow base e size v n xs)(a:dh w g t ys)(f:t≠e)(b:w.grownBy w' (some g)):w'.ownsRow base e size v n xs:=by
 refine⟨h.1,?_⟩;rcases h.2 with h0 | ⟨g',cap,cur,h1,h2,h3,h4⟩
 .exact .inl h0
 .refine .inr ⟨g',cap,cur,h1,h2,?_,h4⟩;have c:=(Array.getElem?_eq_some_iff.1 h3).1;rw[b.block g' c (fun e=>by
   cases e;unfold dh at a;rw[a]at h3;cases h3;exact f rfl)]
  exact h3
structure Rd(B g:Nat)(s:Y_)(i:Nat)(ps:List Pu.aJ)(d:Bool)(vp:V_)(qs:List (Pu.aJ × V_))(W:W_):Prop where
 rb:Rb W g s i vp d
 up:B<=g
 own:W.ownsRow B 248 257 vp qs.length (VI qs)
 ps:qs.map (·.1)=ps
 nx:∀q∈qs,fe W q.2 q.1.next
section
variable {B g i:Nat} {s:Y_} {ps:List Pu.aJ} {d:Bool} {vp:V_} {qs:List (Pu.aJ × V_)} {W W':W_}
theorem Rd.lt(h:Rd B g s i ps d vp qs W):B<=W.heap.size:=by have:=h.rb.lt;have:=h.up;omega
theorem Rd.len(h:Rd B g s i ps d vp qs W):qs.length=ps.length:=by rw[<-h.ps,lm_]
theorem Rd.below(h:Rd B g s i ps d vp qs W)(a:B_ W W'):Rd B g s i ps d vp qs W':=
 ⟨h.rb.below a,h.up,bW h.own a dF,h.ps,fun q b=>(h.nx q b).below a⟩
theorem dM{l:List Nat}{a:Nat}(e:fe W v l)(b:dh W g a xs)(f:a≠3)(c:W.grownBy W' (some g)):fe W' v l:=dG e b f c
theorem Rd.fD{j:Nat}{d':Bool}(h:Rd B g s i ps d vp qs W)(a:W.grownBy W' (some g))(c:Rb W' g s j vp d'):Rd B g s j ps d' vp qs W':=
 ⟨c,h.up,dG h.own h.rb d_ a,h.ps,fun q b=>dM (h.nx q b) h.rb d_ a⟩
theorem Rd.rk(h:Rd B g s i ps d vp qs W)(a:W.grownBy W' (some g)):Rk B W W':=.grown h.rb h.up (.inl rfl) a
end
theorem WW(c:List V_):∀(b a:List V_),c.length<=a.length->(c.zipIdx b.length).foldl (fun cs x=>Array.setIfInBounds cs (0+x.2) x.1) (b++a).toArray=(b++c++a.drop c.length).toArray:=by
 induction c with
 | nil=>intro b a _;simp
 | cons x c f=>
  intro b a h;cases a with
  | nil=>simp at h
  | cons y a=>
   have e:Array.setIfInBounds (b++y::a).toArray (0+b.length) x=((b++[x])++a).toArray:=by rw[Nat.zero_add,sb_,List.set_append_right _ _ dF,Nat.sub_self];simp
   rw[List.zipIdx_cons,List.foldl_cons,e];have:=f (b++[x]) a (by simpa using h);rw[la_,List.length_singleton]at this;rw[this];simp
theorem vI(a:Nat->Option (Nat × Nat))(c z:List V_)(e:a 0=some (0,c.length))(b:c.length<=z.length):Instr.fill a z.toArray [(0,.agg c.toArray)]=some (c++z.drop c.length).toArray:=by have h:=WW c [] z b;simp only[List.nil_append,ln_]at h;unfold Instr.fill;rw[e];simp only[Value.cells,List.size_toArray];rw[if_neg (by simp;omega)];unfold Instr.fill;rw[<-h];simp
theorem sP(n:Nat)(f:Nat->V_):(Array.range n).map f=((List.range n).map f).toArray:=by apply Array.ext';simp[Array.toList_range]
theorem GV:(prog.info? 248).map (fun i=>(i.zero,i.size,i.bytes))=some (some (.agg (List.replicate 256 (Value.bool false)++[n_]).toArray),257,280):=k_
theorem PZ(T:Nat->Bool):prog.built 248 [(0,.agg (dD T).toArray)]=some (dD T++[n_]).toArray:=by
 obtain⟨r,c,e,k,l⟩:=ip_ GV;obtain⟨p,a,b⟩:∃i,prog.info? 246 = some i/\i.size=256:=by
  have:=kW;cases h:prog.info? 246 with
  | none=>rw[h]at this;cases this
  | some i=>rw[h]at this;exact⟨i,rfl,by simpa using this⟩
 obtain⟨q,f,j⟩:∃i,prog.info? 31 = some i/\i.size=1:=by
  have:(prog.info? 31).map (·.size)=some 1:=k_;cases h:prog.info? 31 with
  | none=>rw[h]at this;cases this
  | some i=>rw[h]at this;exact⟨i,rfl,by simpa using this⟩
 unfold Program.built;rw[c,underlying248];simp only[e,List.mapM_cons,List.mapM_nil,a,f,b,j,Option.map_some,Option.bind_eq_bind,Option.bind_some,Option.pure_def,Value.cells];have:=vI (fun x=>#[(0,256),(256,1)][x]?) (dD T) (List.replicate 256 (Value.bool false)++[n_]) (by rw[cZ];rfl) (by rw[cZ,la_,lp_];omega);rw[cZ,List.drop_append_of_le_length (by rw[lp_];omega),List.drop_of_length_le (by rw[lp_];omega),List.nil_append]at this;exact this
theorem TJ(T:Nat->Bool):Instr.fill (fun i=>some (i*257,257)) ((Array.range (1*257)).map fun x=>((Value.agg (List.replicate 256 (Value.bool false)++[n_]).toArray).cells)[x % (Value.agg (List.replicate 256 (Value.bool false)++[n_]).toArray).cells.size]!) [(0,.agg (dD T++[n_]).toArray)]=some (dD T++[n_]).toArray:=by
 rw[sP];have a:(dD T++[n_]).length=257:=by rw[la_,cZ];rfl
 have:=vI (fun i=>some (i*257,257)) (dD T++[n_]) ((List.range (1*257)).map fun x=>((Value.agg (List.replicate 256 (Value.bool false)++[n_]).toArray).cells)[x % (Value.agg (List.replicate 256 (Value.bool false)++[n_]).toArray).cells.size]!) (by rw[a]) (by rw[a,lm_,List.length_range];omega);rw[a,List.drop_of_length_le (by rw[lm_,List.length_range];omega),List.append_nil]at this;exact this
theorem Em{P:Program}{b:Array Oper}{S:W_->Prop}{c:Oper}{a:Act}(j:Region.wanted c (yielded b a.tmps)=true)(t:TypeId)(i:Nat)(x:Operand)(v:V_)(f:c.op=.build t #[(i,x)])(k:a.eval x=v)(cells:Array V_)(e:P.built t [(i,v)]=some cells):YieldsIf P b S c (.agg cells) a:=
 .inl ⟨j,fun w _=>by
  subst k;have h:=run_build (P:=P) w t #[(i,a.eval x)] cells e;unfold execOp;simp only[f,Sem.run_bind,List.map_toArray,List.map_cons,List.map_nil];rw[h];rfl⟩
theorem fG{P:Program}{o:Oper}{a:Act}{K:Act->W_->Prop}{Q:Exit->Act->W_->Prop}(t e:TypeId)(i:Nat)(x:Operand)(v:V_)(l:o.op=.buildSlice t 1 #[(i,x)])(r:a.eval x=v)
  (cells:Array V_) (f:TypeInfo) (z:V_) (size:Nat)
  (q:P.underlying t=some (.slice e)) (j:P.info? e=some f) (u:f.zero=some z) (p:f.size=size) (b:¬1*size > 2 ^ 24) (c:¬1*size=0)
  (k:Instr.fill (fun i=>some (i*size,size)) ((Array.range (1*size)).map (z.cells[· % z.cells.size]!)) [(i,v)]=some cells)
  (h:K (a.put o.dst (s_ w.heap.size 1 1)) (w.alloc (c_ cells e))):o.wp P a w K Q:=by
 subst r p;exact wp_buildSlice t e 1 #[(i,x)] l cells f z q j u b c (by simpa using k) h
theorem TG(q:Pu.aJ × V_):VI [q]=dD q.1.takes++[q.2]:=by rw[tZ];exact List.append_nil _
theorem aeS(T:Nat->Bool):(dD T++[n_]).length=1*257:=by rw[la_,cZ];rfl
theorem Yd(T:Nat->Bool):∀u∈dD T++[n_],u.oneCell'=true:=by
 intro u a;rcases ma_.1 a with h | h
 .exact qQ T u h
 .simp at h;subst h;rfl
theorem dI{b c:Nat}(h:dh w g t xs)(a:dh w b c ys)(f:t≠c):g≠b:=by
 intro e;subst e;unfold dh at h a;rw[h]at a;cases a;exact f rfl
theorem dZ{W':W_}{e:Nat}(h:W.ownsRow base e size v n xs)(b:dh W g t ys)(p:t≠e)(l:W.grownBy W' v.ownBlock):dh W' g t ys:=by
 refine bR b l (fun k=>?_);rcases h.2 with ⟨a,_⟩ | ⟨q,f,j,a,_,c,_⟩
 .rw [a]at k;cases k
 .rw [a]at k;cases k;unfold dh at b;rw[b]at c;cases c;exact p rfl
theorem eO{e:Nat}(h:w.ownsRow base e size v n xs):∃b a,v=.slice b n a/\n<=a/\a<=9223372036854775807:=by
 rcases h.2 with ⟨rfl,f⟩ | ⟨g,a,c,rfl,_,_,j,k,_⟩
 .exact⟨none,0,by rw[f],o_,o_⟩
 .exact⟨_,a,rfl,j,k⟩
theorem Rk.fresh{B:Nat}{j l:W_}(h:Rk B w j)(c:j.grownBy l (some g))(u:w.heap.size<=g)(q:B<=w.heap.size):Rk B w l:=by refine⟨h.lo.grown c (lt_ q h.lo.size) (fun k e=>by cases e;omega),fun k p t fr f a b=>?_⟩;have r:=(Array.getElem?_eq_some_iff.1 f).1;have:=h.jr k p t fr f a b;rw[c.block k (Nat.lt_of_lt_of_le r h.lo.size) (fun e=>by cases e;omega)];exact this
theorem Rd.yQ{B i c:Nat}{s:Y_}{ps:List Pu.aJ}{d:Bool}{vp:V_}{W':W_}(h:Rd B g s i ps d vp qs W)(a:dh W c t xs)(f:t≠199)(j:t≠248)(k:t≠3)(b:W.grownBy W' (some c)):Rd B g s i ps d vp qs W':=
 ⟨bR h.rb b (fun e=>dI h.rb a (fun e=>f e.symm) (oi_ e)),h.up,dG h.own a j b,h.ps,fun q e=>dM (h.nx q e) a k b⟩
theorem oC{a b c:V_}(h:dh W g 127 [a,b,c]):(loadVar 127 (a_ g 0)).run prog W=.ok (.agg #[a,b,c]) W:=
 run_loadVar_mid W g 0 127 [a,b,c] _ (eQ h) underlying127 rfl k_
theorem jE{x y z:V_}(h:dh W g t [x,y,z])(a b c:V_):dh (((W.setCell (a_ g 0) a).setCell (a_ g 1) b).setCell (a_ g 2) c) g t [a,b,c]:=cK (cK (cK h 0 a) 1 b) 2 c
theorem jg(W:W_)(g:Nat)(a b c:V_):W.grownBy (((W.setCell (a_ g 0) a).setCell (a_ g 1) b).setCell (a_ g 2) c) (some g):=
 ((gs_ W g 0 a).trans (gs_ _ g 1 b)).trans (gs_ _ g 2 c)
theorem Py(W:W_)(n:Nat):fe (W.alloc (c_ #[I_ n] 3)) (s_ W.heap.size 1 1) [n]:=
 ⟨rfl,.inr ⟨W.heap.size,1,#[I_ n],rfl,zl_ _,hn_ W _,dF,by unfold maxLen;omega,rfl,rfl⟩⟩
def Nv(B g:Nat)(s:Y_)(i:Nat)(d:Bool)(r:aK × List Pu.aJ)(w:W_)(e:Ending)(w':W_):Prop:=
 ∃a b vp qs,e=.returned (.agg #[.bool r.1.empty,a,b])/\Rk B w w'/\Rd B g s i r.2 d vp qs w'/\fe w' a r.1.first/\fe w' b r.1.last
theorem AV(B g i:Nat)(s:Y_)(ps:List Pu.aJ)(d:Bool)(vp:V_)(qs:List (Pu.aJ × V_))(T:Nat->Bool)(w:W_)(h:Rd B g s i ps d vp qs w)(hl:ps.length<=1000) :
  Calls prog 167 #[p_ g,Fj T] w (Nv B g s i d (Pu.xB T ps) w):=by
 obtain⟨Z,Y,D,E,L⟩:=ip_ GV;obtain⟨U,V,rfl,o1,o2⟩:=eO h.own;have hq2:qs.length<=1000:=by rw[h.len];exact hl
 have BL:=h.lt;have k:=bL (h.below (((Br_ w.heap.size w).alloc dF (c_ (dD T).toArray 246)).alloc i_ (c_ #[.bool false,n_,n_] 127)));have KW:Hid (Rk B w ((w.alloc (c_ (dD T).toArray 246)).alloc (c_ #[.bool false,n_,n_] 127))):=(Rk.alloc BL _).trans (.alloc (by simp;omega) _);have Q:Hid (dh ((w.alloc (c_ (dD T).toArray 246)).alloc (c_ #[.bool false,n_,n_] 127)) w.heap.size 246 (dD T)):=cO (hn_ w _) _;have PB:Hid (dh ((w.alloc (c_ (dD T).toArray 246)).alloc (c_ #[.bool false,n_,n_] 127)) (w.heap.size+1) 127 [.bool false,n_,n_]):=by have z:=hn_ (w.alloc (c_ (dD T).toArray 246)) (c_ #[.bool false,n_,n_] 127);rw[wa_]at z;exact z
 have c2:=bQ 2 k.o.rb rfl;have N:Hid (ps.length=qs.length):=h.len.symm;clear h;go_in;go_wp2_with fail;generalize (w.alloc (c_ (dD T).toArray 246)).alloc (c_ #[.bool false,n_,n_] 127)=e at *;generalize C:w.heap.size=A at *;generalize hgp:A+1=f at *;have J:=k.o.lt;have rl:=k.o.rb.lt;have ne1:g≠e.heap.size:=o_;have uC:e.heap.size≠g:=o_;have x:=bL (k.o.below (((Br_ e.heap.size e).alloc dF (c_ (dD T++[n_]).toArray 248)).drew));have G:Hid (Rk B e (e.alloc (c_ (dD T++[n_]).toArray 248)).drew):=.below J (((Br_ e.heap.size e).alloc dF _).drew);have H:=bL (G.o.fB Q.o d_ d_);have S1:e.drew.rangeAt A 0 (dD T):=eQ (W:=e.drew) Q.o;have O:(e.alloc (c_ (dD T++[n_]).toArray 248)).drew.rangeAt A 0 (dD T):=eQ H.o;refine wd_ (S:=fun w'=>w'.rangeAt A 0 (dD T)) k_ S1 (fun dK=>?_);refine cB 0 ?_;refine cB 1 ?_;refine cB 2 ?_;refine cB 3 ?_;refine wpAnyH_take (i:=5) (v:=.agg (dD T).toArray) rfl k_ k_ k_ (fun _ _ _ h=>h) (yieldsIf_load_mid r_ 246 (.tmp 3) rfl A 0 rfl (dD T) _ (fun _ a=>a) underlying246 rfl (by rw[cZ];exact kW)) y_ ?_
 try simp only[Act.put]
 refine wpAnyH_take (i:=6) (v:=.agg (dD T++[n_]).toArray) rfl k_ k_ k_ (fun _ _ _ h=>h) (Em r_ 248 0 (.tmp 16) (.agg (dD T).toArray) rfl rfl _ (PZ T)) y_ ?_
 try simp only[Act.put]
 refine yz 4 7 (fun K c=>?_) (fun K c=>?_);focus
  go_simp;refine c.out _ _ dK (fun gG=>?_);clear c K
  try simp only[Act.put,sb_]
  refine fF 7 (fun K c=>?_)
 rotate_left;have c2':=bN (j:=2) x.o.rb rfl;rotate_left;all_goals
  refine fG 120 248 0 (.tmp 17) (.agg (dD T++[n_]).toArray) rfl rfl (dD T++[n_]).toArray Z _ 257 underlying120 Y D E o_ o_ (TJ T) ?_
 rotate_left;focus
  refine c.out _ _ O (fun gG=>?_);clear c K
  try simp only[Act.put]
  refine fF 4 (fun K c=>?_);go_simp
 rotate_left;all_goals
  refine c.out _ _ O (fun lT=>?_);clear c K
  try simp only[Act.put,sb_]
  refine fF 8 (fun K c=>?_);refine sa_ _ r_ _ _ _ r_ B 248 Z _ 257 280 underlying120 Y D E L r_ o_ (.slice U qs.length V) qs.length (VI qs) r_ x.o.own (a_ e.heap.size 0) 1 1 (dD T++[n_]) r_ (by rw[aeS]) (World.news_of_block (cs:=(dD T++[n_]).toArray) (t:=248) (fr:=(0,0)) (hn_ _ _)) (Yd T) o_ (by unfold maxLen;omega) o_ (by simp;omega) (e.heap.size+1) i_ ?_;intro u r y X I a b;clear a b;have z:=Rk.row x.o.own (by simp;omega) I;have l:dh y g 199 (rdC s i (.slice U qs.length V) d):=by have:=x.o.rb;exact dZ x.o.own this d_ I
  have p:=z.fB H.o d_ d_;have R:=cK l 2 (s_ u (qs.length+1) r);have F:=bU p (dI p l d_) 2 (s_ u (qs.length+1) r);refine c.out _ _ (eQ p) (fun kT=>?_);have k5:=bQ 2 l rfl;have Oh:=bM l 2;clear c K
 try simp only[Act.put]
 rotate_left;focus try simp only[Act.put,sb_]
 all_goals
  refine cB 9 ?_;refine cB 10 ?_;refine fF 11 (fun K c=>?_);go_simp;refine c.out _ _ (eQ F) (fun nX=>?_);clear c K;refine wpAnyH_done k_ ?_ _;have b:=gs_ y g 2 (s_ u (qs.length+1) r);have K3:Hid (Rk B w (y.setCell (a_ g 2) (s_ u (qs.length+1) r))):=(KW.o.trans (G.o.trans z)).trans (.grown l k.o.up (.inl rfl) b);have R3:Hid (Rd B g s i (Pu.xB T ps).2 d (s_ u (qs.length+1) r) (qs++[(⟨T,[]⟩,n_)]) (y.setCell (a_ g 2) (s_ u (qs.length+1) r))):=by
   refine⟨R,k.o.up,?_,?_,fun q a=>?_⟩
   .have:=dG X l d_ b;rw[TF,TG,la_];exact this
   .rw [List.map_append,k.o.ps];rfl
   .rcases ma_.1 a with h | h
    .exact ((G.o.trans z).trans (.grown l k.o.up (.inl rfl) b)).jK (k.o.nx q h)
    .simp at h;subst h;exact fe.nil _
  have a:Hid (dh (y.setCell (a_ g 2) (s_ u (qs.length+1) r)) f 127 [.bool false,n_,n_]):=(G.o.trans (z.trans (.grown l k.o.up (.inl rfl) b))).fB PB.o d_ d_;clear kT nX l R p F k5 Oh X I z b x H;generalize y.setCell (a_ g 2) (s_ u (qs.length+1) r)=b at *;have H:=bP a.o;have p0:=bQ 0 a.o rfl;have p1:=bQ 1 a.o rfl;have p2:=bQ 2 a.o rfl;have R:=bM a.o 0;have X:=bM a.o 1;have f2:=bM a.o 2;have n1:f≠b.heap.size:=o_;have n2:b.heap.size≠f:=o_;have n3:f≠b.heap.size+1:=o_;have n4:b.heap.size+1≠f:=o_;go_wp2;have z:=jg b f (.bool false) (s_ b.heap.size 1 1) (s_ (b.heap.size+1) 1 1);have x:=jE a.o (.bool false) (s_ b.heap.size 1 1) (s_ (b.heap.size+1) 1 1);have q:=R3.o.yQ a.o d_ d_ d_ z;have sz:(((b.setCell (a_ f 0) (.bool false)).setCell (a_ f 1) (s_ b.heap.size 1 1)).setCell (a_ f 2) (s_ (b.heap.size+1) 1 1)).heap.size=b.heap.size:=by simp[World.setCell]
  have F:=K3.o.fresh z (by rw[C];omega) (by rw[C];omega);generalize ((b.setCell (a_ f 0) (.bool false)).setCell (a_ f 1) (s_ b.heap.size 1 1)).setCell (a_ f 2) (s_ (b.heap.size+1) 1 1)=l at *;have p:=((Br_ l.heap.size l).alloc dF (c_ #[I_ qs.length] 3)).alloc i_ (c_ #[I_ qs.length] 3);have na:=(Py l qs.length).below (kM (c_ #[I_ qs.length] 3));have nb:=Py (l.alloc (c_ #[I_ qs.length] 3)) qs.length;rw[wa_]at nb;rw[sz]at na nb;have I:=oC (bO x p (bP x));refine br_ (v:=.agg #[.bool false,s_ b.heap.size 1 1,s_ (b.heap.size+1) 1 1]) (by simp[results,results167,asAddr,I]) rfl ?_;refine⟨_,_,_,_,rfl,F.trans (.below q.lt p),q.below p,?_,?_⟩
  .show fe _ _ [ps.length];rw[N.o];exact na
  .show fe _ _ [ps.length];rw[N.o];exact nb
end Go.Proofs.YtmccnmgaoppogabGreat
