import Derived.Test.YtmccnmgaoppogabGreatuHG
namespace Go.Proofs.YtmccnmgaoppogabGreat
open Pu
set_option linter.all false
open Go.Proofs.Tryz Tryz
set_option maxRecDepth 100000
set_option maxHeartbeats 8000000
open Go.RowKit
variable {g:Nat} {xs:List V_} {modes:Int} {f1 f2:Nat->Bool}
section
variable {gs:List Nat} {w w':W_} {gg gr gf cap n:Nat} {fo:Nat->Nat->Bool}
theorem Gf.Vy{t:Nat}(h:Gf w gg gr gf cap n gs fo)(a:dh w g t xs)(d:t≠4):g∉gs:=by intro b;obtain⟨i,c⟩:=gf_ b;exact dI a (h.row i g c) d rfl
theorem Gf.up(h:Gf w gg gr gf cap n gs fo):∀g∈gs,g<w.heap.size:=by intro g a;obtain⟨i,b⟩:=gf_ a;exact bP (h.row i g b)
theorem Gk.rows{B t size m:Nat}{v:V_}(d:Gk gs w w')(h:Gf w gg gr gf cap n gs fo)(a:w.ownsRow B t size v m xs)(f:t≠4):w'.ownsRow B t size v m xs:=by
 refine⟨a.1,?_⟩;rcases a.2 with h0 | ⟨g,cap,cur,h3,h4,h5,h6⟩
 .exact .inl h0
 .refine .inr ⟨g,cap,cur,h3,h4,?_,h6⟩;have e:=(Array.getElem?_eq_some_iff.1 h5).1;rw[d.block g e (fun b=>by
   obtain⟨i,c⟩:=gf_ b;have:=h.row i g c;unfold Bl dh at this;rw[this]at h5;cases h5;exact f rfl)]
  exact h5
theorem Gk.dr{B i:Nat}{s:Y_}{ns:List aF}{vn vl:V_}{down:Int}(b:Gk gs w w')(h:Gf w gg gr gf cap n gs fo)(a:Dr B g s i ns vn vl modes down w):Dr B g s i ns vn vl modes down w':=
 ⟨b.fB a.rb (h.Vy a.rb d_),a.up,b.rows h a.own d_⟩
end
def ZB(e:Bool)(a b:V_):List V_:=[.bool e,a,b]
abbrev dE(g n:Nat):V_:=s_ g n n
structure MF(B g i:Nat)(s:Y_)(ns:List aF)(vn vl:V_)(modes down:Int)(gg gf cap:Nat)(gs:List Nat)(fo:Nat->Nat->Bool)(x:aF)(r gx:Nat)(w W:W_):Prop where
 dr:Dr B g s i ns vn vl modes down W
 gf:Gf W gg g gf cap ns.length gs fo
 gk:Gk gs w W
 aY:dh W r 219 (ZB false n_ n_)
 nd:dh W gx 181 (dS x)
 up:∀g∈gs,g<w.heap.size
 lr:w.heap.size<=r
section
variable {B g i:Nat} {s:Y_} {ns:List aF} {vn vl:V_} {modes down:Int} {gg gf cap:Nat} {gs:List Nat} {fo Ii:Nat->Nat->Bool} {x:aF} {r gx:Nat} {w W W':W_}
theorem MF.below(h:MF B g i s ns vn vl modes down gg gf cap gs fo x r gx w W)(a:B_ W W'):MF B g i s ns vn vl modes down gg gf cap gs fo x r gx w W':=
 ⟨h.dr.below a,h.gf.below a,h.gk.trans (.below a),bO h.aY a (bP h.aY),bO h.nd a (bP h.nd),h.up,h.lr⟩
theorem MF.on(h:MF B g i s ns vn vl modes down gg gf cap gs fo x r gx w W)(a:Gk gs W W')(b:Gf W' gg g gf cap ns.length gs Ii):MF B g i s ns vn vl modes down gg gf cap gs Ii x r gx w W':=
 ⟨a.dr h.gf h.dr,b,h.gk.trans a,a.fB h.aY (h.gf.Vy h.aY d_),a.fB h.nd (h.gf.Vy h.nd d_),h.up,h.lr⟩
def Ez(w:W_):W_:=w.alloc (c_ #[.bool false,n_,n_] 219)
theorem jA(w:W_):B_ w (Ez w):=kM _
theorem MF.new(d:Dr B g s i ns vn vl modes down w)(c:Gf w gg g gf cap ns.length gs fo)(x:aF):MF B g i s ns vn vl modes down gg gf cap gs fo x w.heap.size (Ez w).heap.size w (mJ (Ez w) x):=by have a:=lD (Ez w) x;have b:=(jA w).trans (a.mono (jA w).size);have r:dh (Ez w) w.heap.size 219 (ZB false n_ n_):=hn_ _ _;exact⟨d.below b,c.below b,.below b,bO r a (bP r),oz (Ez w) x,c.up,dF⟩
end
def kN(e0:Bool)(f1 f2:Nat->Bool)(gg gr gf cap n:Nat)(gs:List Nat)(fo:Nat->Nat->Bool)(w:W_)(e:Ending)(w':W_):Prop:=
 ∃ga gb,e=.returned (.agg #[.bool e0,dE ga n,dE gb n])/\Gk gs w w'/\Gf w' gg gr gf cap n gs fo/\w.heap.size<=ga/\w.heap.size<=gb/\Bl w' ga n f1/\Bl w' gb n f2
theorem Td{W:W_}{a b c:V_}(h:dh W g 219 [a,b,c]):(loadVar 219 (a_ g 0)).run prog W=.ok (.agg #[a,b,c]) W:=
 run_loadVar_mid W g 0 219 [a,b,c] _ (eQ h) underlying219 rfl k_
section
variable {gs:List Nat} {w W W':W_} {gg gr gf cap n:Nat} {fo:Nat->Nat->Bool}
theorem Gk.Ca(h:Gk gs w W)(a:W.grownBy W' (some g))(d:w.heap.size<=g):Gk gs w W':=
 ⟨a.os.trans h.os,a.tape.trans h.tape,a.output.trans h.output,lt_ h.size a.size,fun k b c=>(a.block k (Nat.lt_of_lt_of_le b h.size) (fun e=>by cases e;omega)).trans (h.block k b c)⟩
theorem Gf.o{t:Nat}(h:Gf W gg gr gf cap n gs fo)(c:dh W g t xs)(k:t≠217)(b:t≠153)(a:W.grownBy W' (some g))(j:g∉gs):Gf W' gg gr gf cap n gs fo:=
 ⟨bR h.b a (fun e=>by cases e;exact dI h.b c (fun e=>k e.symm) rfl),dG h.own c b a,h.len,fun i f e=>bR (h.row i f e) a (fun d=>by cases d;exact j (mg_ e)),h.nd⟩
theorem Cs{r a b:Nat}{x y z:V_}(k:Gk gs w W)(j:Gf W gg gr gf cap n gs fo)(up:∀g∈gs,g<w.heap.size)(d:dh W r 219 [x,y,z])(q:w.heap.size<=r)(l:w.heap.size<=a)(p:w.heap.size<=b)(f:Bl W a n f1)(bd:Bl W b n f2)(e:Bool) :
  (loadVar 219 (a_ r 0)).run prog (kG W r (.bool e) (dE a n) (dE b n))=.ok (.agg #[.bool e,dE a n,dE b n]) (kG W r (.bool e) (dE a n) (dE b n))/\
  kN e f1 f2 gg gr gf cap n gs fo w (.returned (.agg #[.bool e,dE a n,dE b n])) (kG W r (.bool e) (dE a n) (dE b n)):=by
 have c:=jg W r (.bool e) (dE a n) (dE b n);refine⟨Td (jE d _ _ _),a,b,rfl,k.Ca c q,j.o d d_ d_ c (fun h=>by have:=up r h;omega),l,p,?_,?_⟩
 .exact bR f c (fun e=>by cases e;exact dI f d d_ rfl)
 .exact bR bd c (fun e=>by cases e;exact dI bd d d_ rfl)
end
theorem fM(W:W_)(a b c:Obj):B_ W (((W.alloc a).alloc b).alloc c).drew/\(((W.alloc a).alloc b).alloc c).drew.heap[W.heap.size]?=some a/\(((W.alloc a).alloc b).alloc c).drew.heap[W.heap.size+1]?=some b/\(((W.alloc a).alloc b).alloc c).drew.heap[W.heap.size+1+1]?=some c:=by
 have d:B_ W (W.alloc a):=kM _;have e:Below (W.alloc a).heap.size (W.alloc a) ((W.alloc a).alloc b):=kM _;have f:Below ((W.alloc a).alloc b).heap.size ((W.alloc a).alloc b) (((W.alloc a).alloc b).alloc c):=kM _;have j:(W.alloc a).heap.size=W.heap.size+1:=wa_ _ _;have l:((W.alloc a).alloc b).heap.size=W.heap.size+1+1:=by rw[wa_,j]
 have k:=hn_ W a;have n1:=hn_ (W.alloc a) b;have h:=hn_ ((W.alloc a).alloc b) c;rw[j]at n1;rw[l]at h;refine⟨((d.trans (e.mono d.size)).trans (f.mono (d.trans (e.mono d.size)).size)).drew,?_,?_,h⟩
 .show (((W.alloc a).alloc b).alloc c).heap[W.heap.size]?=_;rw[f.block _ o_,e.block _ o_];exact k
 .show (((W.alloc a).alloc b).alloc c).heap[W.heap.size+1]?=_;rw[f.block _ o_];exact n1
theorem XO(B g i:Nat)(s:Y_)(ns:List aF)(vn vl:V_)(modes down:Int)(U:ns.length<=100000)(gg gf cap:Nat)(gs:List Nat)(fo:Nat->Nat->Bool)(T:Nat->Bool)(p:Nat)(w:W_)(D:Dr B g s i ns vn vl modes down w)(G:Gf w gg g gf cap ns.length gs fo)(H:ns[p]?=some ⟨1,0,0,T⟩) :
  Calls prog 106 #[p_ gg,I_ p] w (kN false (fun k=>decide (k=p)) (fun k=>decide (k=p)) gg g gf cap ns.length gs fo w):=by
 obtain⟨C,F,rfl,b⟩:=(D.below (jA w)).get H;have N:p<ns.length:=(ge_.1 H).1;have aS:=jJ p;have i1:(p:Int)<ns.length:=o_;have c:=bL (MF.new D G ⟨1,0,0,T⟩);have a:Hid ((Ez w).cell? (a_ gg 0)=some (p_ g)):=bN (j:=0) (G.below (jA w)).b rfl;have f:Hid ((Ez w).cell? (a_ g 1)=some (s_ C ns.length F)):=bN (j:=1) (D.below (jA w)).rb rfl;have X:Hid (w.heap.size<=(Ez w).heap.size):=(jA w).size;have l:=bL b;clear b D H G;go_in;go_upto_region 1 with (fail);rw[show w.alloc (c_ #[.bool false,n_,n_] 219)=Ez w from rfl];generalize Ez w=d at *;generalize hq:w.heap.size=r at *;have b:d.cell? (a_ gg 0)=some (p_ g):=a.o;have e:d.cell? (a_ g 1)=some (s_ C ns.length F):=f.o;have q:=nA;clear a f;go_upto_region 2 with (first | (refine wl_ rfl 181 (.tmp 21) rfl C (p*259) rfl _ _ l.o underlying181 rfl iH ?_) | (refine ws_ rfl 181 (.tmp 5) (.tmp 22) rfl d.heap.size 0 (dS ⟨1,0,0,T⟩).toArray rfl rfl (jC _) (nk _) (oc_ (jf _)) ?_));clear b e q l;rw[show (d.alloc (c_ zm.toArray 181)).setCells d.heap.size 0 (dS ⟨1,0,0,T⟩)=mJ d ⟨1,0,0,T⟩ from rfl];generalize mJ d ⟨1,0,0,T⟩=a at *;generalize d.heap.size=gx at *;have b:=bQ 0 c.o.gf.b rfl;have e:=bQ 1 c.o.dr.rb rfl;have f:a.cell? (a_ gx 0)=some (I_ 1):=bN (j:=0) c.o.nd rfl;have S:=qX ns.length U;go_upto_region 4 with (fail);clear b e f;go_cut [7] from 8 (fun e b=>∃ga gb l,e=p_ l/\MF B g i s ns (s_ C ns.length F) vl modes down gg gf cap gs fo ⟨1,0,0,T⟩ r gx w b/\(r<=ga/\r<=gb/\ga≠gb)/\Bl b ga ns.length (fun _=>false)/\Bl b gb ns.length (fun _=>false)/\dh b l 219 (ZB false (dE ga ns.length) (dE gb ns.length)))
 case first=>
  have Y:r<=a.heap.size:=ll_ (bP c.o.aY);go_region;all_goals
   go_wp2_with fail;go_meet;case rel=>
    first
     | exact⟨a.heap.size,(a.heap.size+1),(a.heap.size+1+1),rfl,c.o.below (fM a _ _ _).1,⟨o_,o_,o_⟩,(fM a _ _ _).2.1,(fM a _ _ _).2.2.1,(fM a _ _ _).2.2.2⟩
     | exact⟨a.heap.size,(a.heap.size+1+1),(a.heap.size+1),rfl,c.o.below (fM a _ _ _).1,⟨o_,o_,o_⟩,(fM a _ _ _).2.1,(fM a _ _ _).2.2.2,(fM a _ _ _).2.2.1⟩
     | exact⟨(a.heap.size+1),a.heap.size,(a.heap.size+1+1),rfl,c.o.below (fM a _ _ _).1,⟨o_,o_,o_⟩,(fM a _ _ _).2.2.1,(fM a _ _ _).2.1,(fM a _ _ _).2.2.2⟩
     | exact⟨(a.heap.size+1),(a.heap.size+1+1),a.heap.size,rfl,c.o.below (fM a _ _ _).1,⟨o_,o_,o_⟩,(fM a _ _ _).2.2.1,(fM a _ _ _).2.2.2,(fM a _ _ _).2.1⟩
     | exact⟨(a.heap.size+1+1),a.heap.size,(a.heap.size+1),rfl,c.o.below (fM a _ _ _).1,⟨o_,o_,o_⟩,(fM a _ _ _).2.2.2,(fM a _ _ _).2.1,(fM a _ _ _).2.2.1⟩
     | exact⟨(a.heap.size+1+1),(a.heap.size+1),a.heap.size,rfl,c.o.below (fM a _ _ _).1,⟨o_,o_,o_⟩,(fM a _ _ _).2.2.2,(fM a _ _ _).2.2.1,(fM a _ _ _).2.1⟩
 case rest=>
  obtain⟨ga,gb,l,rfl,b,⟨la,lb,ne⟩,f,q,t⟩:=hcut;have m0:=bQ 0 t rfl;have m1:=bQ 1 t rfl;have m2:=bQ 2 t rfl;have Z:=bN f (iy _ N);have cb:=bN q (iy _ N);have aP:=bM f p;have aQ:=bM q p;have z0:=bQ 0 b.aY rfl;have z1:=bQ 1 b.aY rfl;have z2:=bQ 2 b.aY rfl;have aY:=bM b.aY 0;have R:=bM b.aY 1;have r2:=bM b.aY 2;have n1:l≠ga:=dI t f d_;have V:l≠gb:=dI t q d_;have O:r≠ga:=dI b.aY f d_;have Q:r≠gb:=dI b.aY q d_;have n5:ga≠l:=fun e=>n1 e.symm;have n6:gb≠l:=fun e=>V e.symm;have n7:ga≠r:=fun e=>O e.symm;have n8:gb≠r:=fun e=>Q e.symm;have I:gb≠ga:=fun e=>ne e.symm;have u:Hid (∀y,y=(wc.setCell (a_ ga p) (.bool true)).setCell (a_ gb p) (.bool true)->(loadVar 219 (a_ r 0)).run prog (kG y r (.bool false) (dE ga ns.length) (dE gb ns.length))=.ok (.agg #[.bool false,dE ga ns.length,dE gb ns.length]) (kG y r (.bool false) (dE ga ns.length) (dE gb ns.length))/\kN false (fun k=>decide (k=p)) (fun k=>decide (k=p)) gg g gf cap ns.length gs fo w (.returned (.agg #[.bool false,dE ga ns.length,dE gb ns.length])) (kG y r (.bool false) (dE ga ns.length) (dE gb ns.length))):=by
   rintro y rfl;have z:=gs_ wc ga p (.bool true);have A:=gs_ (wc.setCell (a_ ga p) (.bool true)) gb p (.bool true);have one:rY ns.length (fun k=>decide (k=p))=rY ns.length (uW (fun _=>false) p true):=pX (fun k _=>by unfold uW;by_cases e:k=p <;> simp[e]);have J:=cK f p (.bool true);have K:=bR q z (fun e=>I (oi_ e));have L:=cK K p (.bool true);rw[Eu,<-one]at J L;have E:w.heap.size<=ga/\w.heap.size<=gb:=by have:=b.lr;omega
   have na:ga∉gs:=fun h=>by have:=b.up _ h;omega
   have nb:gb∉gs:=fun h=>by have:=b.up _ h;omega
   have R:=bR b.aY z (fun e=>O (oi_ e));exact Cs ((b.gk.Ca z E.1).Ca A E.2) ((b.gf.o f d_ d_ z na).o K d_ d_ A nb) b.up (bR R A (fun e=>Q (oi_ e))) b.lr E.1 E.2 (bR J A (fun e=>ne (oi_ e))) L false
  clear b f q t c;go_wp2;refine br_ (v:=.agg #[.bool false,dE ga ns.length,dE gb ns.length]) ?_ rfl (u.o _ rfl).2;simp[results,results106,asAddr,(u.o _ rfl).1]
structure MA(w:W_)(gs:List Nat)(n gA ga gb:Nat)(e0:Bool)(f1 f2:Nat->Bool)(W:W_):Prop where
 ma:dh W gA 219 (ZB e0 (dE ga n) (dE gb n))
 aP:Bl W ga n f1
 aQ:Bl W gb n f2
 la:w.heap.size<=ga
 lb:w.heap.size<=gb
 lm:w.heap.size<=gA
section
variable {w W W':W_} {gs:List Nat} {n gA ga gb:Nat} {e0:Bool} {f1 f2:Nat->Bool}
theorem MA.on(h:MA w gs n gA ga gb e0 f1 f2 W)(up:∀g∈gs,g<w.heap.size)(a:Gk gs W W'):MA w gs n gA ga gb e0 f1 f2 W':=
 ⟨a.fB h.ma (fun k=>by have:=up _ k;have:=h.lm;omega),a.fB h.aP (fun k=>by have:=up _ k;have:=h.la;omega),a.fB h.aQ (fun k=>by have:=up _ k;have:=h.lb;omega),h.la,h.lb,h.lm⟩
theorem MA.below(h:MA w gs n gA ga gb e0 f1 f2 W)(a:B_ W W'):MA w gs n gA ga gb e0 f1 f2 W':=
 ⟨bO h.ma a (bP h.ma),bO h.aP a (bP h.aP),bO h.aQ a (bP h.aQ),h.la,h.lb,h.lm⟩
theorem MA.na(h:MA w gs n gA ga gb e0 f1 f2 W)(up:∀g∈gs,g<w.heap.size):ga∉gs:=fun k=>by have:=up _ k;have:=h.la;omega
theorem MA.nb(h:MA w gs n gA ga gb e0 f1 f2 W)(up:∀g∈gs,g<w.heap.size):gb∉gs:=fun k=>by have:=up _ k;have:=h.lb;omega
end
def Ae(w:W_)(e:Bool)(a b:V_):W_:=w.alloc (c_ #[.bool e,a,b] 219)
theorem jM(w:W_)(e:Bool)(a b:V_):B_ w (Ae w e a b):=kM _
theorem wP(w:W_)(e:Bool)(a b:V_):dh (Ae w e a b) w.heap.size 219 (ZB e a b):=hn_ _ _
theorem Ut{B i:Nat}{s:Y_}{ns:List aF}{vn vl:V_}{down:Int}{gg gf cap:Nat}{gs:List Nat}{fo Ii:Nat->Nat->Bool}{x:aF}{r gx gA ga gb:Nat}{e0:Bool}{w W:W_}(M:MF B g i s ns vn vl modes down gg gf cap gs fo x r gx w W)(A:MA w gs ns.length gA ga gb e0 f1 f2 W)(ne:r≠gA)(e:Bool)(b:∀i k,i<ns.length->k<ns.length->fo i k=Ii i k) :
  (loadVar 219 (a_ r 0)).run prog (kG (W.setCell (a_ gA 0) (.bool e)) r (.bool e) (dE ga ns.length) (dE gb ns.length))=.ok (.agg #[.bool e,dE ga ns.length,dE gb ns.length]) (kG (W.setCell (a_ gA 0) (.bool e)) r (.bool e) (dE ga ns.length) (dE gb ns.length))/\
  kN e f1 f2 gg g gf cap ns.length gs Ii w (.returned (.agg #[.bool e,dE ga ns.length,dE gb ns.length])) (kG (W.setCell (a_ gA 0) (.bool e)) r (.bool e) (dE ga ns.length) (dE gb ns.length)):=by
 have a:=gs_ W gA 0 (.bool e);have na:gA∉gs:=fun k=>by have:=M.up _ k;have:=A.lm;omega
 exact Cs (M.gk.Ca a A.lm) (((M.gf.congr b)).o A.ma d_ d_ a na) M.up (bR M.aY a (fun e=>ne (oi_ e))) M.lr A.la A.lb (bR A.aP a (fun e=>dI A.aP A.ma d_ (oi_ e))) (bR A.aQ a (fun e=>dI A.aQ A.ma d_ (oi_ e))) e
theorem Cn(B g i:Nat)(s:Y_)(ns:List aF)(vn vl:V_)(modes down:Int)(U:ns.length<=100000)(gg gf cap:Nat)(gs:List Nat)(fo A:Nat->Nat->Bool)(T:Nat->Bool)(p k l:Nat)(e0:Bool)(f1 f2:Nat->Bool)(w:W_)(I:Dr B g s i ns vn vl modes down w)(K:Gf w gg g gf cap ns.length gs fo)(N:ns[p]?=some ⟨k,l,0,T⟩)(L:k=4\/k=5\/k=6)
  (S:∀W,Dr B g s i ns vn vl modes down W->Gf W gg g gf cap ns.length gs fo->C_ 106 #[p_ gg,I_ l] W (kN e0 f1 f2 gg g gf cap ns.length gs A W)) :
  Calls prog 106 #[p_ gg,I_ p] w (kN (e0 || decide (k≠5)) f1 f2 gg g gf cap ns.length gs (fun a c=>A a c || (decide (k≠6) && (f2 a && f1 c))) w):=by
 obtain⟨J,Q,rfl,e⟩:=(I.below (jA w)).get N;have hm:p<ns.length:=(ge_.1 N).1;have aS:=jJ p;have i1:(p:Int)<ns.length:=o_;have d:=bL (MF.new I K ⟨k,l,0,T⟩);have t:Hid ((Ez w).cell? (a_ gg 0)=some (p_ g)):=bN (j:=0) (K.below (jA w)).b rfl;have u:Hid ((Ez w).cell? (a_ g 1)=some (s_ J ns.length Q)):=bN (j:=1) (I.below (jA w)).rb rfl;have z:=bL e;have v:=bL S;clear e I N K S;go_in;go_upto_region 1 with (fail);rw[show w.alloc (c_ #[.bool false,n_,n_] 219)=Ez w from rfl];generalize Ez w=y at *;generalize hq:w.heap.size=r at *;have e:y.cell? (a_ gg 0)=some (p_ g):=t.o;have q:y.cell? (a_ g 1)=some (s_ J ns.length Q):=u.o;have C:=nA;clear t u;go_upto_region 2 with (first | (refine wl_ rfl 181 (.tmp 21) rfl J (p*259) rfl _ _ z.o underlying181 rfl iH ?_) | (refine ws_ rfl 181 (.tmp 5) (.tmp 22) rfl y.heap.size 0 (dS ⟨k,l,0,T⟩).toArray rfl rfl (jC _) (nk _) (oc_ (jf _)) ?_));clear e q C z;rw[show (y.alloc (c_ zm.toArray 181)).setCells y.heap.size 0 (dS ⟨k,l,0,T⟩)=mJ y ⟨k,l,0,T⟩ from rfl];generalize mJ y ⟨k,l,0,T⟩=R at *;generalize y.heap.size=gx at *;have e:=bQ 0 d.o.gf.b rfl;have q:=bQ 1 d.o.dr.rb rfl;have z:R.cell? (a_ gx 0)=some (I_ k):=bN (j:=0) d.o.nd rfl;have t:R.cell? (a_ gx 1)=some (I_ l):=bN (j:=1) d.o.nd rfl;have d1:decide ((k:Int)=1)=false:=dn_ o_;have d2:=oL (3:Int) (k:Int);go_wp2_with fail;refine (v.o _ d.o.dr d.o.gf).mono ?_;clear v e q z t;rintro e v ⟨ga,gb,rfl,q,t,E,F,u,z⟩;have f:=bL ((d.o.on q t).below (jM v e0 (dE ga ns.length) (dE gb ns.length)));have b:Hid (MA w gs ns.length v.heap.size ga gb e0 f1 f2 (Ae v e0 (dE ga ns.length) (dE gb ns.length))):=by have D:=d.o.gk.size;have C:=jM v e0 (dE ga ns.length) (dE gb ns.length);exact⟨wP _ _ _ _,bO u C (bP u),bO z C (bP z),o_,o_,by have:=q.size;omega⟩
 have D:Hid (r≠v.heap.size):=by have:=bP d.o.aY;have:=q.size;intro e;omega
 clear q t E F u z d;go_upto_region 9 with (fail);rw[show v.alloc (c_ #[.bool e0,dE ga ns.length,dE gb ns.length] 219)=Ae v e0 (dE ga ns.length) (dE gb ns.length) from rfl];generalize Ae v e0 (dE ga ns.length) (dE gb ns.length)=E at *;generalize v.heap.size=gA at *;have t:=f.o.up;rcases L with rfl | rfl | rfl;focus
  skip
  have z:E.cell? (a_ gx 0)=some (I_ 4):=bN (j:=0) f.o.nd rfl;have F:=bQ 0 b.o.ma rfl;have G:=bQ 1 b.o.ma rfl;have H:=bQ 2 b.o.ma rfl;go_wp2_with fail;refine (zM gg g gf cap ns.length gb ga gs A f2 f1 E f.o.gf b.o.aQ b.o.aP (b.o.nb t) (b.o.na t) U).mono ?_;rintro e O ⟨rfl,d,C⟩;have q:=bL (f.o.on d C);have u:=bL (b.o.on t d);clear d C f b z F G H;have z:O.cell? (a_ gx 0)=some (I_ 4):=bN (j:=0) q.o.nd rfl
 rotate_left;focus
  skip
  have z:E.cell? (a_ gx 0)=some (I_ 5):=bN (j:=0) f.o.nd rfl;have F:=bQ 0 b.o.ma rfl;have G:=bQ 1 b.o.ma rfl;have H:=bQ 2 b.o.ma rfl;go_wp2_with fail;refine (zM gg g gf cap ns.length gb ga gs A f2 f1 E f.o.gf b.o.aQ b.o.aP (b.o.nb t) (b.o.na t) U).mono ?_;rintro e O ⟨rfl,d,C⟩;have q:=bL (f.o.on d C);have u:=bL (b.o.on t d);clear d C f b z F G H;have z:O.cell? (a_ gx 0)=some (I_ 5):=bN (j:=0) q.o.nd rfl
 rotate_left
 .skip
  have z:E.cell? (a_ gx 0)=some (I_ 6):=bN (j:=0) f.o.nd rfl;have F:=bQ 0 b.o.ma rfl;have G:=bQ 1 b.o.ma rfl;have H:=bQ 2 b.o.ma rfl;have aW:=bM b.o.ma 0;have Z:=bQ 0 f.o.aY rfl;have z1:=bQ 1 f.o.aY rfl;have z2:=bQ 2 f.o.aY rfl;have aY:=bM f.o.aY 0;have V:=bM f.o.aY 1;have X:=bM f.o.aY 2;have C:r≠gA:=D.o;have Y:gA≠r:=fun e=>C e.symm;have d:=bL (fun e=>Ut f.o b.o D.o e (Ii:=fun a c=>A a c || (decide ((6:Nat)≠6) && (f2 a && f1 c))) (fun a c _ _=>i_));clear f b;cases e0 with
  | true=>?_
  | false=>?_
  all_goals
   go_wp2;exact br_ (by simp[results,results106,asAddr,(d.o true).1]) rfl (d.o true).2
 all_goals
  have F:=bQ 0 u.o.ma rfl;have G:=bQ 1 u.o.ma rfl;have H:=bQ 2 u.o.ma rfl;have aW:=bM u.o.ma 0;have Z:=bQ 0 q.o.aY rfl;have z1:=bQ 1 q.o.aY rfl;have z2:=bQ 2 q.o.aY rfl;have aY:=bM q.o.aY 0;have V:=bM q.o.aY 1;have X:=bM q.o.aY 2;have C:r≠gA:=D.o;have Y:gA≠r:=fun e=>C e.symm
 .have d:=bL (fun e=>Ut q.o u.o D.o e (Ii:=fun a c=>A a c || (decide ((4:Nat)≠6) && (f2 a && f1 c))) (fun a c _ _=>i_));clear q u;cases e0 with
  | true=>?_
  | false=>?_
  all_goals
   go_wp2;exact br_ (by simp[results,results106,asAddr,(d.o true).1]) rfl (d.o true).2
 .have d:=bL (fun e=>Ut q.o u.o D.o e (Ii:=fun a c=>A a c || (decide ((5:Nat)≠6) && (f2 a && f1 c))) (fun a c _ _=>i_));clear q u;cases e0 with
  | true=>go_wp2;exact br_ (by simp[results,results106,asAddr,(d.o true).1]) rfl (d.o true).2
  | false=>go_wp2;exact br_ (by simp[results,results106,asAddr,(d.o false).1]) rfl (d.o false).2
section
variable {gs:List Nat} {w W W':W_} {gg gr gf cap n:Nat} {fo:Nat->Nat->Bool}
theorem Vv{r h d f:Nat}{x y z a b c:V_}(t:Gk gs w W)(q:Gf W gg gr gf cap n gs fo)(up:∀g∈gs,g<w.heap.size)(u:dh W r 219 [x,y,z])(D:w.heap.size<=r)(A:w.heap.size<=d)(C:w.heap.size<=f)(p:Bl W d n f1)(bd:Bl W f n f2)(l:dh W h 219 [a,b,c])(v:w.heap.size<=h)(ne:r≠h)(j:W.grownBy W' (some h))(e:Bool) :
  (loadVar 219 (a_ r 0)).run prog (kG W' r (.bool e) (dE d n) (dE f n))=.ok (.agg #[.bool e,dE d n,dE f n]) (kG W' r (.bool e) (dE d n) (dE f n))/\
  kN e f1 f2 gg gr gf cap n gs fo w (.returned (.agg #[.bool e,dE d n,dE f n])) (kG W' r (.bool e) (dE d n) (dE f n)):=by
 have na:h∉gs:=fun k=>by have:=up _ k;omega
 exact Cs (t.Ca j v) (q.o l d_ d_ j na) up (bR u j (fun e=>ne (oi_ e))) D A C (bR p j (fun e=>dI p l d_ (oi_ e))) (bR bd j (fun e=>dI bd l d_ (oi_ e))) e
end
theorem kN.congr{e0:Bool}{b a:Nat->Bool}{gg gr gf cap n:Nat}{gs:List Nat}{fo:Nat->Nat->Bool}{w w':W_}{e:Ending}(h:kN e0 f1 f2 gg gr gf cap n gs fo w e w')(c:∀k,f1 k=b k)(d:∀k,f2 k=a k):kN e0 b a gg gr gf cap n gs fo w e w':=by rw[show b=f1 from funext (fun k=>(c k).symm),show a=f2 from funext (fun k=>(d k).symm)];exact h
theorem S9(B g i:Nat)(s:Y_)(ns:List aF)(vn vl:V_)(modes down:Int)(hn:ns.length<=100000)(gg gf cap:Nat)(gs:List Nat)(fo RY D:Nat->Nat->Bool)(T:Nat->Bool)(p l y:Nat)(e0 b:Bool)(f1 f2 E O:Nat->Bool)(w:W_)(Q:Dr B g s i ns vn vl modes down w)(U:Gf w gg g gf cap ns.length gs fo)(X:ns[p]?=some ⟨3,l,y,T⟩)
  (Nl:∀W,Dr B g s i ns vn vl modes down W->Gf W gg g gf cap ns.length gs fo->C_ 106 #[p_ gg,I_ l] W (kN e0 f1 f2 gg g gf cap ns.length gs RY W))
  (Nn:∀W,Dr B g s i ns vn vl modes down W->Gf W gg g gf cap ns.length gs RY->C_ 106 #[p_ gg,I_ y] W (kN b E O gg g gf cap ns.length gs D W)) :
  Calls prog 106 #[p_ gg,I_ p] w (kN (e0 || b) (fun k=>f1 k || E k) (fun k=>f2 k || O k) gg g gf cap ns.length gs D w):=by
 obtain⟨S,D8,rfl,c⟩:=(Q.below (jA w)).get X;have hm:p<ns.length:=(ge_.1 X).1;have aS:=jJ p;have i1:(p:Int)<ns.length:=o_;have a:=bL (MF.new Q U ⟨3,l,y,T⟩);have e:Hid ((Ez w).cell? (a_ gg 0)=some (p_ g)):=bN (j:=0) (U.below (jA w)).b rfl;have f:Hid ((Ez w).cell? (a_ g 1)=some (s_ S ns.length D8)):=bN (j:=1) (Q.below (jA w)).rb rfl;have t:=bL c;have q:=bL Nl;have A:=bL Nn;clear c Q X U Nl Nn;go_in;go_upto_region 1 with (fail);rw[show w.alloc (c_ #[.bool false,n_,n_] 219)=Ez w from rfl];generalize Ez w=v at *;generalize hq:w.heap.size=r at *;have c:v.cell? (a_ gg 0)=some (p_ g):=e.o;have d:v.cell? (a_ g 1)=some (s_ S ns.length D8):=f.o;have u:=nA;clear e f;go_upto_region 2 with (first | (refine wl_ rfl 181 (.tmp 21) rfl S (p*259) rfl _ _ t.o underlying181 rfl iH ?_) | (refine ws_ rfl 181 (.tmp 5) (.tmp 22) rfl v.heap.size 0 (dS ⟨3,l,y,T⟩).toArray rfl rfl (jC _) (nk _) (oc_ (jf _)) ?_));clear c d u t;rw[show (v.alloc (c_ zm.toArray 181)).setCells v.heap.size 0 (dS ⟨3,l,y,T⟩)=mJ v ⟨3,l,y,T⟩ from rfl];generalize mJ v ⟨3,l,y,T⟩=W1 at *;generalize v.heap.size=gx at *;have c:=bQ 0 a.o.gf.b rfl;have d:=bQ 1 a.o.dr.rb rfl;have z:W1.cell? (a_ gx 0)=some (I_ 3):=bN (j:=0) a.o.nd rfl;have e:W1.cell? (a_ gx 1)=some (I_ l):=bN (j:=1) a.o.nd rfl;have d1:decide ((3:Int)=1)=false:=dn_ o_;have d2:=nI (3:Int) (3:Int);go_wp2_with fail;refine (q.o _ a.o.dr a.o.gf).mono ?_;clear q c d z e;rintro e q ⟨ga,gb,rfl,c,d,C,F,f,t⟩;have u:=bL ((a.o.on c d).below (jM q e0 (dE ga ns.length) (dE gb ns.length)));have G:Hid (MA w gs ns.length q.heap.size ga gb e0 f1 f2 (Ae q e0 (dE ga ns.length) (dE gb ns.length))):=by have E:=a.o.gk.size;have z:=jM q e0 (dE ga ns.length) (dE gb ns.length);exact⟨wP _ _ _ _,bO f z (bP f),bO t z (bP t),o_,o_,by have:=c.size;omega⟩
 have NE:Hid (r≠q.heap.size):=by have:=bP a.o.aY;have:=c.size;intro e;omega
 clear c d C F f t a;go_upto_region 9 with (fail);rw[show q.alloc (c_ #[.bool e0,dE ga ns.length,dE gb ns.length] 219)=Ae q e0 (dE ga ns.length) (dE gb ns.length) from rfl];generalize Ae q e0 (dE ga ns.length) (dE gb ns.length)=W3 at *;generalize q.heap.size=gA at *;have V:=u.o.up;have z:W3.cell? (a_ gx 0)=some (I_ 3):=bN (j:=0) u.o.nd rfl;have a:W3.cell? (a_ gx 2)=some (I_ y):=bN (j:=2) u.o.nd rfl;go_wp2_with fail;refine (A.o _ u.o.dr u.o.gf).mono ?_;clear A z a;rintro e t ⟨d,f,rfl,a,H,I,J,C,bd⟩;have F:=bL ((u.o.on a H).below (jM t b (dE d ns.length) (dE f ns.length)));have c:=bL ((G.o.on V a).below (jM t b (dE d ns.length) (dE f ns.length)));have A:Hid (MA w gs ns.length t.heap.size d f b E O (Ae t b (dE d ns.length) (dE f ns.length))):=by have K:=u.o.gk.size;have z:=jM t b (dE d ns.length) (dE f ns.length);exact⟨wP _ _ _ _,bO C z (bP C),bO bd z (bP bd),o_,o_,by have:=a.size;omega⟩
 clear a H I J C bd u G;go_upto_region 15 with (fail);rw[show t.alloc (c_ #[.bool b,dE d ns.length,dE f ns.length] 219)=Ae t b (dE d ns.length) (dE f ns.length) from rfl];generalize Ae t b (dE d ns.length) (dE f ns.length)=W5 at *;generalize t.heap.size=gB at *;have z:W5.cell? (a_ gx 0)=some (I_ 3):=bN (j:=0) F.o.nd rfl;have H:=bQ 0 c.o.ma rfl;have I:=bQ 1 c.o.ma rfl;have J:=bQ 2 c.o.ma rfl;have K:=bQ 0 A.o.ma rfl;have L:=bQ 1 A.o.ma rfl;have N:=bQ 2 A.o.ma rfl;go_wp2_with fail;refine (vF ns.length ga d f1 E W5 c.o.aP A.o.aP hn).mono ?_;rintro e w6 ⟨g1,rfl,a,Z,Y⟩;have G:=bL (F.o.below a);have u:=bL (c.o.below a);have C:=bL (A.o.below a);have L6:Hid (w.heap.size<=g1):=by have:=F.o.gk.size;show _<=_;omega
 have R:=bL Y;clear a Z Y F c A z H I J K L N;have z:w6.cell? (a_ gx 0)=some (I_ 3):=bN (j:=0) G.o.nd rfl;have H:=bQ 0 u.o.ma rfl;have I:=bQ 1 u.o.ma rfl;have J:=bQ 2 u.o.ma rfl;have K:=bQ 0 C.o.ma rfl;have L:=bQ 1 C.o.ma rfl;have N:=bQ 2 C.o.ma rfl;go_wp2_with fail;refine (vF ns.length gb f f2 O w6 u.o.aQ C.o.aQ hn).mono ?_;rintro e w7 ⟨g2,rfl,c,l7,b7⟩;have a:=bL (G.o.below c);have A:=bL (u.o.below c);have F:=bL (C.o.below c);have L7:Hid (w.heap.size<=g2):=by have:=G.o.gk.size;show _<=_;omega
 have Y:=bL (bO R.o c (bP R.o));have Z:=bL b7;clear c l7 b7 G u C R z H I J K L N;have z:w7.cell? (a_ gx 0)=some (I_ 3):=bN (j:=0) a.o.nd rfl;have H:=bQ 0 A.o.ma rfl;have I:=bQ 1 A.o.ma rfl;have J:=bQ 2 A.o.ma rfl;have K:=bQ 0 F.o.ma rfl;have L:=bQ 1 F.o.ma rfl;have N:=bQ 2 F.o.ma rfl;have G:=bQ 0 a.o.aY rfl;have R:=bQ 1 a.o.aY rfl;have z2:=bQ 2 a.o.aY rfl;have aY:=bM a.o.aY 0;have u:=bM a.o.aY 1;have C:=bM a.o.aY 2;have c:=bL (fun e=>Cs a.o.gk a.o.gf a.o.up a.o.aY a.o.lr L6.o L7.o Y.o Z.o e);clear a A F Y Z;cases e0 with
 | true=>go_wp2;exact br_ (by simp[results,results106,asAddr,(c.o true).1]) rfl (c.o true).2
 | false=>go_wp2;exact br_ (by simp[results,results106,asAddr,(c.o b).1]) rfl (c.o b).2
theorem Tc(B g i:Nat)(s:Y_)(ns:List aF)(vn vl:V_)(modes down:Int)(hn:ns.length<=100000)(gg gf cap:Nat)(gs:List Nat)(fo RY fo3:Nat->Nat->Bool)(T:Nat->Bool)(p l rr:Nat)(e0 D:Bool)(f1 f2 h1 h2:Nat->Bool)(w:W_)(hd:Dr B g s i ns vn vl modes down w)(hf:Gf w gg g gf cap ns.length gs fo)(hx:ns[p]?=some ⟨2,l,rr,T⟩)
  (Nl:∀W,Dr B g s i ns vn vl modes down W->Gf W gg g gf cap ns.length gs fo->C_ 106 #[p_ gg,I_ l] W (kN e0 f1 f2 gg g gf cap ns.length gs RY W))
  (Nn:∀W,Dr B g s i ns vn vl modes down W->Gf W gg g gf cap ns.length gs RY->C_ 106 #[p_ gg,I_ rr] W (kN D h1 h2 gg g gf cap ns.length gs fo3 W)) :
  Calls prog 106 #[p_ gg,I_ p] w (kN (e0 && D) (fun k=>f1 k || (e0 && h1 k)) (fun k=>h2 k || (D && f2 k)) gg g gf cap ns.length gs (fun a c=>fo3 a c || (f2 a && h1 c)) w):=by
 obtain⟨gn,D8,rfl,d⟩:=(hd.below (jA w)).get hx;have hm:p<ns.length:=(ge_.1 hx).1;have aS:=jJ p;have i1:(p:Int)<ns.length:=o_;have b:=bL (MF.new hd hf ⟨2,l,rr,T⟩);have f:Hid ((Ez w).cell? (a_ gg 0)=some (p_ g)):=bN (j:=0) (hf.below (jA w)).b rfl;have q:Hid ((Ez w).cell? (a_ g 1)=some (s_ gn ns.length D8)):=bN (j:=1) (hd.below (jA w)).rb rfl;have u:=bL d;have t:=bL Nl;have y:=bL Nn;clear d hd hx hf Nl Nn;go_in;go_upto_region 1 with (fail);rw[show w.alloc (c_ #[.bool false,n_,n_] 219)=Ez w from rfl];generalize Ez w=W0 at *;generalize hq:w.heap.size=r at *;have d:W0.cell? (a_ gg 0)=some (p_ g):=f.o;have e:W0.cell? (a_ g 1)=some (s_ gn ns.length D8):=q.o;have v:=nA;clear f q;go_upto_region 2 with (first | (refine wl_ rfl 181 (.tmp 21) rfl gn (p*259) rfl _ _ u.o underlying181 rfl iH ?_) | (refine ws_ rfl 181 (.tmp 5) (.tmp 22) rfl W0.heap.size 0 (dS ⟨2,l,rr,T⟩).toArray rfl rfl (jC _) (nk _) (oc_ (jf _)) ?_));clear d e v u;rw[show (W0.alloc (c_ zm.toArray 181)).setCells W0.heap.size 0 (dS ⟨2,l,rr,T⟩)=mJ W0 ⟨2,l,rr,T⟩ from rfl];generalize mJ W0 ⟨2,l,rr,T⟩=W1 at *;generalize W0.heap.size=gx at *;have d:=bQ 0 b.o.gf.b rfl;have e:=bQ 1 b.o.dr.rb rfl;have y0:W1.cell? (a_ gx 0)=some (I_ 2):=bN (j:=0) b.o.nd rfl;have f:W1.cell? (a_ gx 1)=some (I_ l):=bN (j:=1) b.o.nd rfl;have d1:decide ((2:Int)=1)=false:=dn_ o_;have d2:=nI (3:Int) (2:Int);go_wp2_with fail;refine (t.o _ b.o.dr b.o.gf).mono ?_;clear t d e y0 f;rintro e w2 ⟨ga,gb,rfl,d,q,C,E,u,v⟩;have f:=bL ((b.o.on d q).below (jM w2 e0 (dE ga ns.length) (dE gb ns.length)));have z:Hid (MA w gs ns.length w2.heap.size ga gb e0 f1 f2 (Ae w2 e0 (dE ga ns.length) (dE gb ns.length))):=by have h1:=b.o.gk.size;have t:=jM w2 e0 (dE ga ns.length) (dE gb ns.length);exact⟨wP _ _ _ _,bO u t (bP u),bO v t (bP v),o_,o_,by have:=d.size;omega⟩
 have NE:Hid (r≠w2.heap.size):=by have:=bP b.o.aY;have:=d.size;intro e;omega
 clear d q C E u v b;go_upto_region 9 with (fail);rw[show w2.alloc (c_ #[.bool e0,dE ga ns.length,dE gb ns.length] 219)=Ae w2 e0 (dE ga ns.length) (dE gb ns.length) from rfl];generalize Ae w2 e0 (dE ga ns.length) (dE gb ns.length)=W3 at *;generalize w2.heap.size=gA at *;have u:=f.o.up;have y0:W3.cell? (a_ gx 0)=some (I_ 2):=bN (j:=0) f.o.nd rfl;have b:W3.cell? (a_ gx 2)=some (I_ rr):=bN (j:=2) f.o.nd rfl;go_wp2_with fail;refine (y.o _ f.o.dr f.o.gf).mono ?_;clear y y0 b;rintro e w4 ⟨U,b,rfl,d,E,G,H,y,bd⟩;have C:=bL ((f.o.on d E).below (jM w4 D (dE U ns.length) (dE b ns.length)));have q:=bL ((z.o.on u d).below (jM w4 D (dE U ns.length) (dE b ns.length)));have v:Hid (MA w gs ns.length w4.heap.size U b D h1 h2 (Ae w4 D (dE U ns.length) (dE b ns.length))):=by have I:=f.o.gk.size;have t:=jM w4 D (dE U ns.length) (dE b ns.length);exact⟨wP _ _ _ _,bO y t (bP y),bO bd t (bP bd),o_,o_,by have:=d.size;omega⟩
 clear d E G H y bd f z;go_upto_region 15 with (fail);rw[show w4.alloc (c_ #[.bool D,dE U ns.length,dE b ns.length] 219)=Ae w4 D (dE U ns.length) (dE b ns.length) from rfl];generalize Ae w4 D (dE U ns.length) (dE b ns.length)=W5 at *;generalize w4.heap.size=gB at *;have y0:W5.cell? (a_ gx 0)=some (I_ 2):=bN (j:=0) C.o.nd rfl;have L:=bQ 0 q.o.ma rfl;have N:=bQ 1 q.o.ma rfl;have O:=bQ 2 q.o.ma rfl;have Q:=bQ 0 v.o.ma rfl;have R:=bQ 1 v.o.ma rfl;have S:=bQ 2 v.o.ma rfl;go_wp2_with fail;refine (zM gg g gf cap ns.length gb U gs fo3 f2 h1 W5 C.o.gf q.o.aQ v.o.aP (q.o.nb u) (v.o.na u) hn).mono ?_;rintro e t ⟨rfl,d,E⟩;have E6:Hid (w.heap.size<=t.heap.size/\r<t.heap.size/\ga<t.heap.size):=by have:=d.size;have:=C.o.gk.size;have:=bP C.o.aY;have:=bP q.o.aP;exact⟨o_,o_,o_⟩
 have f:=jM t (e0 && D) (dE ga ns.length) (dE b ns.length);have G:=bL (C.o.on d E);have z:=bL (q.o.on u d);have y:=bL (v.o.on u d);have M7:=bL (G.o.below f);have F:=bL (z.o.below f);have J:=bL (y.o.below f);have A:Hid (dh (Ae t (e0 && D) (dE ga ns.length) (dE b ns.length)) t.heap.size 219 (ZB (e0 && D) (dE ga ns.length) (dE b ns.length))):=wP _ _ _ _;clear d E f C q v y0 L N O Q R S;have y0:t.cell? (a_ gx 0)=some (I_ 2):=bN (j:=0) G.o.nd rfl;have L:=bQ 0 z.o.ma rfl;have N:=bQ 1 z.o.ma rfl;have O:=bQ 2 z.o.ma rfl;have Q:=bQ 0 y.o.ma rfl;have R:=bQ 1 y.o.ma rfl;have S:=bQ 2 y.o.ma rfl;have NAM:Hid (gA≠t.heap.size):=by have:=bP z.o.ma;intro e;omega
 have NBM:Hid (gB≠t.heap.size):=by have:=bP y.o.ma;intro e;omega
 have LR:Hid (w.heap.size<=r):=G.o.lr;have LD:Hid (w.heap.size<=b):=y.o.lb;clear G z y;cases e0 with
 | true=>
  cases D with
  | true=>?_
  | false=>?_
  focus
   go_upto_region 21 with (fail);rw[show t.alloc (c_ #[.bool true,dE ga ns.length,dE b ns.length] 219)=Ae t (true && true) (dE ga ns.length) (dE b ns.length) from rfl];generalize Ae t (true && true) (dE ga ns.length) (dE b ns.length)=W7 at *
  rotate_left;focus
   go_upto_region 21 with (fail);rw[show t.alloc (c_ #[.bool false,dE ga ns.length,dE b ns.length] 219)=Ae t (true && false) (dE ga ns.length) (dE b ns.length) from rfl];generalize Ae t (true && false) (dE ga ns.length) (dE b ns.length)=W7 at *
  rotate_left;all_goals
   generalize t.heap.size=d at *;clear y0 L N O Q R S;have L:=bQ 0 F.o.ma rfl;have N:=bQ 1 F.o.ma rfl;have O:=bQ 2 F.o.ma rfl;have Q:=bQ 0 J.o.ma rfl;have R:=bQ 1 J.o.ma rfl;have S:=bQ 2 J.o.ma rfl;have m0:=bQ 0 A.o rfl;have m1:=bQ 1 A.o rfl;have m2:=bQ 2 A.o rfl;have q1:=bM A.o 1;have q2:=bM A.o 2;go_wp2_with fail;refine (vF ns.length ga U f1 h1 W7 F.o.aP J.o.aP hn).mono ?_;rintro e I ⟨v,rfl,y,l8,Z⟩;have L8:Hid (w.heap.size<=v):=by have:=M7.o.gk.size;show _<=_;omega
   have N8:=bL (show d≠v by have:=bP A.o;omega);have Y:=bL (M7.o.below y);have V:=bL (F.o.below y);have H:=bL (J.o.below y);have G:=gs_ I d 1 (dE v ns.length);have f:=bL (bO A.o y (bP A.o))
  have C:Hid (dh (I.setCell (a_ d 1) (dE v ns.length)) d 219 (ZB (true && true) (dE v ns.length) (dE b ns.length))):=cK f.o 1 _;rotate_left;have C:Hid (dh (I.setCell (a_ d 1) (dE v ns.length)) d 219 (ZB (true && false) (dE v ns.length) (dE b ns.length))):=cK f.o 1 _;rotate_left;all_goals
   have aV:d∉gs:=fun k=>by have:=u _ k;have:=E6.o.1;omega
   have q:Hid (dh (I.setCell (a_ d 1) (dE v ns.length)) r 219 (ZB false n_ n_)):=bR Y.o.aY G (fun e=>by have:=oi_ e;have:=E6.o.2.1;omega);have E:Hid (Gk gs w (I.setCell (a_ d 1) (dE v ns.length))/\Gf (I.setCell (a_ d 1) (dE v ns.length)) gg g gf cap ns.length gs (fun i k=>fo3 i k || (f2 i && h1 k))):=⟨Y.o.gk.Ca G E6.o.1,Y.o.gf.o f.o d_ d_ G aV⟩;have z:Hid (Bl (I.setCell (a_ d 1) (dE v ns.length)) v ns.length (fun k=>f1 k || h1 k)/\Bl (I.setCell (a_ d 1) (dE v ns.length)) gb ns.length f2/\Bl (I.setCell (a_ d 1) (dE v ns.length)) b ns.length h2):=⟨bR Z G (fun e=>dI Z f.o d_ (oi_ e)),bR V.o.aQ G (fun e=>dI V.o.aQ f.o d_ (oi_ e)),bR H.o.aQ G (fun e=>dI H.o.aQ f.o d_ (oi_ e))⟩;have X:Hid (dh (I.setCell (a_ d 1) (dE v ns.length)) gA 219 (ZB true (dE ga ns.length) (dE gb ns.length))):=bR V.o.ma G (fun e=>NAM.o (oi_ e))
  have K:Hid (dh (I.setCell (a_ d 1) (dE v ns.length)) gB 219 (ZB true (dE U ns.length) (dE b ns.length))):=bR H.o.ma G (fun e=>NBM.o (oi_ e));rotate_left;have K:Hid (dh (I.setCell (a_ d 1) (dE v ns.length)) gB 219 (ZB false (dE U ns.length) (dE b ns.length))):=bR H.o.ma G (fun e=>NBM.o (oi_ e));rotate_left;all_goals
   have q8:=bM f.o 1;have k81:=bQ 1 f.o rfl;clear L N O Q R S m0 m1 m2 q1 q2 y l8 Z M7 F J A Y V H f G;go_upto_region 23 with (fail);generalize I.setCell (a_ d 1) (dE v ns.length)=W9 at *;clear q8 k81;have L:=bQ 0 X.o rfl;have N:=bQ 1 X.o rfl;have O:=bQ 2 X.o rfl;have Q:=bQ 0 K.o rfl;have R:=bQ 1 K.o rfl;have S:=bQ 2 K.o rfl
  .go_wp2_with fail;refine (vF ns.length gb b f2 h2 W9 z.o.2.1 z.o.2.2 hn).mono ?_;rintro e w10 ⟨g2,rfl,G,l10,Y⟩;have L10:Hid (w.heap.size<=g2):=by have:=E.o.1.size;show _<=_;omega
   have H:=bL (bO C.o G (bP C.o));have y:=bL (bO q.o G (bP q.o));have V:=bL (bO z.o.1 G (bP z.o.1));have Z:=gs_ w10 d 2 (dE g2 ns.length);have f:=bL (Vv (E.o.1.trans (.below G)) (E.o.2.below G) u y.o LR.o L8.o L10.o V.o Y H.o E6.o.1 (by have:=E6.o.2.1;omega) Z true);have m0:=bQ 0 H.o rfl;have m1:=bQ 1 H.o rfl;have m2:=bQ 2 H.o rfl;have q2:=bM H.o 2;have z0:=bQ 0 y.o rfl;have z1:=bQ 1 y.o rfl;have z2:=bQ 2 y.o rfl;have aY:=bM y.o 0;have r1:=bM y.o 1;have r2:=bM y.o 2;have ne1:r≠d:=by have:=E6.o.2.1;omega
   have uC:d≠r:=fun e=>ne1 e.symm;clear L N O Q R S G l10 Y C q z E H y V Z X K;go_wp2;exact br_ (by simp[results,results106,asAddr,f.o.1]) rfl (kN.congr f.o.2 (fun k=>i_) (fun k=>by simp[Bool.or_comm]))
  .have f:=bL (Cs E.o.1 E.o.2 u q.o LR.o L8.o LD.o z.o.1 z.o.2.2 false);have m0:=bQ 0 C.o rfl;have m1:=bQ 1 C.o rfl;have m2:=bQ 2 C.o rfl;have z0:=bQ 0 q.o rfl;have z1:=bQ 1 q.o rfl;have z2:=bQ 2 q.o rfl;have aY:=bM q.o 0;have r1:=bM q.o 1;have r2:=bM q.o 2;clear C q z E X K;go_wp2;exact br_ (by simp[results,results106,asAddr,f.o.1]) rfl (kN.congr f.o.2 (fun k=>i_) (fun k=>i_))
 | false=>
  cases D with
  | true=>?_
  | false=>?_
  focus
   go_upto_region 21 with (fail);rw[show t.alloc (c_ #[.bool false,dE ga ns.length,dE b ns.length] 219)=Ae t (false && true) (dE ga ns.length) (dE b ns.length) from rfl];generalize Ae t (false && true) (dE ga ns.length) (dE b ns.length)=W7 at *
  rotate_left;focus
   go_upto_region 21 with (fail);rw[show t.alloc (c_ #[.bool false,dE ga ns.length,dE b ns.length] 219)=Ae t (false && false) (dE ga ns.length) (dE b ns.length) from rfl];generalize Ae t (false && false) (dE ga ns.length) (dE b ns.length)=W7 at *
  rotate_left;all_goals
   generalize t.heap.size=d at *;clear y0 L N O Q R S;have L:=bQ 0 F.o.ma rfl;have N:=bQ 1 F.o.ma rfl;have O:=bQ 2 F.o.ma rfl;have Q:=bQ 0 J.o.ma rfl;have R:=bQ 1 J.o.ma rfl;have S:=bQ 2 J.o.ma rfl;have m0:=bQ 0 A.o rfl;have m1:=bQ 1 A.o rfl;have m2:=bQ 2 A.o rfl;have q1:=bM A.o 1;have q2:=bM A.o 2;have z:Hid (Bl W7 ga ns.length f1/\Bl W7 gb ns.length f2/\Bl W7 b ns.length h2):=⟨F.o.aP,F.o.aQ,J.o.aQ⟩;have q:=bL M7.o.aY;have E:=bL (And.intro M7.o.gk M7.o.gf);have X:=bL F.o.ma;have K:=bL J.o.ma;have C:=bL A.o;have L8:=bL F.o.la;go_upto_region 23 with (fail);clear L N O Q R S m0 m1 m2 q1 q2 M7 F J A;generalize W7=W9 at *;have L:=bQ 0 X.o rfl;have N:=bQ 1 X.o rfl;have O:=bQ 2 X.o rfl;have Q:=bQ 0 K.o rfl;have R:=bQ 1 K.o rfl;have S:=bQ 2 K.o rfl
  .go_wp2_with fail;refine (vF ns.length gb b f2 h2 W9 z.o.2.1 z.o.2.2 hn).mono ?_;rintro e w10 ⟨g2,rfl,G,l10,Y⟩;have L10:Hid (w.heap.size<=g2):=by have:=E.o.1.size;show _<=_;omega
   have H:=bL (bO C.o G (bP C.o));have y:=bL (bO q.o G (bP q.o));have V:=bL (bO z.o.1 G (bP z.o.1));have Z:=gs_ w10 d 2 (dE g2 ns.length);have f:=bL (Vv (E.o.1.trans (.below G)) (E.o.2.below G) u y.o LR.o L8.o L10.o V.o Y H.o E6.o.1 (by have:=E6.o.2.1;omega) Z false);have m0:=bQ 0 H.o rfl;have m1:=bQ 1 H.o rfl;have m2:=bQ 2 H.o rfl;have q2:=bM H.o 2;have z0:=bQ 0 y.o rfl;have z1:=bQ 1 y.o rfl;have z2:=bQ 2 y.o rfl;have aY:=bM y.o 0;have r1:=bM y.o 1;have r2:=bM y.o 2;have ne1:r≠d:=by have:=E6.o.2.1;omega
   have uC:d≠r:=fun e=>ne1 e.symm;clear L N O Q R S G l10 Y C q z E H y V Z X K;go_wp2;exact br_ (by simp[results,results106,asAddr,f.o.1]) rfl (kN.congr f.o.2 (fun k=>i_) (fun k=>by simp[Bool.or_comm]))
  .have f:=bL (Cs E.o.1 E.o.2 u q.o LR.o L8.o LD.o z.o.1 z.o.2.2 false);have m0:=bQ 0 C.o rfl;have m1:=bQ 1 C.o rfl;have m2:=bQ 2 C.o rfl;have z0:=bQ 0 q.o rfl;have z1:=bQ 1 q.o rfl;have z2:=bQ 2 q.o rfl;have aY:=bM q.o 0;have r1:=bM q.o 1;have r2:=bM q.o 2;clear C q z E X K;go_wp2;exact br_ (by simp[results,results106,asAddr,f.o.1]) rfl (kN.congr f.o.2 (fun k=>i_) (fun k=>i_))
end Go.Proofs.YtmccnmgaoppogabGreat
