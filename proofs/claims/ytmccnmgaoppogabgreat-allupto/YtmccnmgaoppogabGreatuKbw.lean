import Derived.Test.YtmccnmgaoppogabGreatuKbu
import Derived.Test.YtmccnmgaoppogabGreatuYF
namespace Go.Proofs.YtmccnmgaoppogabGreat
open Pu
set_option linter.all false
open Go.Proofs.Tryz Tryz
set_option maxRecDepth 100000
set_option maxHeartbeats 8000000
open Go.RowKit
variable {base:Nat} {xs:List V_} {w w':W_}
theorem Ru.row{W W':W_}{a:List aC}{g e size n:Nat}{v:V_}(h:Ru W a g)(c:W.ownsRow base e size v n xs)(n1:142≠e)(p:181≠e)(q:144≠e)(b:W.grownBy W' v.ownBlock):Ru W' a g:=by obtain⟨B,r,s,f,i,j,k,d,l⟩:=h;exact⟨B,r,s,f,i,j,k,⟨fq c d.rb n1 b,d.up,eX d.own c p b⟩,eX l c q b⟩
section
variable {N B:Nat} {S:BO} {os:List Gz} {W W':W_}
theorem WQ.below(h:WQ N B S os W)(a:B_ W W'):WQ N B S os W':=
 h.step (row:=none) (fun b e=>by cases e) ⟨a.os,a.tape,a.output,a.size,fun k b _=>a.block k b⟩
theorem WI.below(h:WI N S W)(a:B_ W W'):WI N S W':=
 ⟨(h.q.below a).more a.size dF,bO h.d a (bP h.d),fun k=>bW (h.l k) a dF,fun k=>bW (h.m k) a dF,h.yQ,h.apn,h.ap,h.up⟩
theorem EK(k:Fin 4){len:Nat}{b:Option Addr}{a:Nat}{v:V_}(h:W.ownsRow base (Br k) (xD k) (.slice b len a) len xs):Part k W b a 0 v/\∀g,b=some (a_ g 0)->base<=g:=by
 rcases h.2 with ⟨d,_⟩ | ⟨g,f,c,d,i,j,n,p,q,_⟩
 .cases d;exact⟨.inl ⟨rfl,rfl⟩,fun g e=>by cases e⟩
 .cases d;refine⟨.inr ⟨g,c.toList,rfl,?_,by simp;omega⟩,fun l e=>by cases e;exact i⟩;unfold dh;simpa using j
theorem WI.kept{A:Fin 4->Option Addr}{l I:Fin 4->Nat}{V:Fin 4->V_}{m:Int}{L M:Fin 4->V_}{a b:Fin 4->Nat}{xs ys:Fin 4->List V_}(ks:Fin 4->List Tl)(c:KT (WQ N B S S.zs) S.gd A l I V m L M a b xs ys W)
  (t:∀k,∀x∈ks k,x∈S.ks k\/(x.ao=A k/\x.cap=l k/\I k=l k/\V k=I_ x.m))
  (f:∀k,a k=(ks k).length/\xs k=(ks k).map fun x=>.slice x.ao x.cap x.cap) (u:∀k,b k=(ks k).length/\ys k=bY ((ks k).map (·.m)))
  (r:∀k g,(M k).ownBlock=some g->(S.M k).ownBlock=some g\/∃W,WQ N B S S.zs W/\W.heap.size<=g) (s:∀k b,(S.M k).ownBlock=some b->Far S.zs b/\∀x∈S.ks 0,x.ao≠some (a_ b 0))
  (v:∀(i j:Nat) (x y:Gz),S.zs[i]?=some x->S.zs[j]?=some y->i≠j->x.g≠y.g/\x.gs≠y.gs) (up:S.gd<=S.gw/\∀x∈S.zs,S.gd<=x.g/\S.gd<=x.gs) :
  WI N { S with ks:=ks,n:=m,L:=L,M:=M } W:=by
 refine⟨⟨c.q.w,c.q.im,c.q.sc,fun k z q=>?_,c.q.gz,dF,c.q.pic⟩,c.d,fun k=>?_,fun k=>?_,fun k g e=>⟨?_,fun x D d=>?_⟩,c.apn,v,up⟩
 .rcases t k z q with h | ⟨h1,h2,h3,h4⟩
  .exact⟨(c.q.parts k z h).1,fun g e=>(c.q.parts k z h).1.lt e⟩
  .have p:=c.t k;rw[h3,<-h1,<-h2,h4]at p;exact⟨p,fun g e=>p.lt e⟩
 .have:=c.l k;rw[(f k).1,(f k).2]at this;exact this
 .have:=c.n k;rw[(u k).1,(u k).2]at this;exact this
 .rcases r k g e with h | ⟨V,hV,f⟩
  .exact (s k g h).1
  .intro z q;have k:=hV.gz z q;obtain⟨xs,p⟩:=k.c.fB;obtain⟨ys,C⟩:=k.d.fB;have:=bP p;have:=bP C;omega
 .rcases t 0 x D with h | ⟨h1,_⟩
  .rcases r k g e with h3 | ⟨V,hV,f⟩
   .exact (s k g h3).2 x h d
   .have:=(hV.parts 0 x h).1.lt d;omega
  .rw [h1]at d;exact c.apt k g d e
end
def pK(w w':W_):Prop:=∀a b,dh w a 44 b->dh w' a 44 b
theorem pK.trans{a b c:W_}(h:pK a b)(d:pK b c):pK a c:=fun _ _ k=>d _ _ (h _ _ k)
theorem pK.alloc(w:W_)(o:Obj):pK w (w.alloc o):=fun _ _ k=>cO k o
theorem pK.below(a:B_ w w'):pK w w':=fun _ _ k=>bO k a (bP k)
theorem pK.grown{g t:Nat}(a:dh w g t xs)(c:44≠t)(b:w.grownBy w' (some g)):pK w w':=fun _ _ k=>bR k b (fun e=>gD k a c (oi_ e))
theorem pK.row{e size n:Nat}{v:V_}(h:w.ownsRow base e size v n xs)(b:44≠e)(a:w.grownBy w' v.ownBlock):pK w w':=fun _ _ k=>fq h k b a
theorem pK.cell{g t:Nat}(a:dh w g t xs)(b:44≠t)(j:Nat)(u:V_):pK w (w.setCell (a_ g j) u):=fun _ _ k=>bU k (gD k a b) j u
structure Kept(gd:Nat)(w w':W_):Prop where
 op:pK w w'
 lo:Below gd w w'
theorem Kept.trans{d:Nat}{a b c:W_}(h:Kept d a b)(e:Kept d b c):Kept d a c:=⟨h.op.trans e.op,h.lo.trans e.lo⟩
theorem Kept.alloc{a:Nat}{w:W_}(b:a<=w.heap.size)(o:Obj):Kept a w (w.alloc o):=⟨.alloc w o,(Br_ _ _).alloc b o⟩
theorem Kept.below{a:Nat}{w w':W_}(c:a<=w.heap.size)(b:B_ w w'):Kept a w w':=⟨.below b,b.mono c⟩
theorem Kept.grown{a:Nat}{w w':W_}{g t:Nat}{xs:List V_}(d:a<=g)(b:dh w g t xs)(f:44≠t)(c:w.grownBy w' (some g)):Kept a w w':=
 ⟨.grown b f c,(Br_ _ _).grown c (by have:=bP b;omega) (fun k e=>by cases e;exact d)⟩
theorem Kept.row{a:Nat}{w w':W_}{e size n:Nat}{v:V_}{xs:List V_}(c:a<=w.heap.size)(h:w.ownsRow a e size v n xs)(f:44≠e)(b:w.grownBy w' v.ownBlock):Kept a w w':=
 ⟨.row h f b,(Br_ _ _).grown b c (fun k d=>(ol_ h k d).1)⟩
theorem Kept.cell{a:Nat}{w:W_}{g t:Nat}{xs:List V_}(c:a<=g)(b:dh w g t xs)(d:44≠t)(j:Nat)(u:V_):Kept a w (w.setCell (a_ g j) u):=⟨.cell b d j u,(Br_ _ _).setCell c u⟩
theorem kty_o:∀k,44≠Br k/\44≠zl k:=d_
theorem Kept.lets{b:Nat}{A:Fin 4->Option Addr}(L M:Fin 4->V_)(c:b<=w.heap.size)(f:∀k g,A k=some (a_ g 0)->b<=g):wF b A L M (Kept b w) where
 below:=fun _ _ h a=>h.trans (.below (lt_ c h.lo.size) a)
 drawer:=fun _ _ _ _ h a=>h.trans (.cell dF a d_ _ _)
 part:=fun _ k g _ _ _ h e a=>h.trans (.cell (f k g e) a (kty_o k).1 _ _)
 lists:=fun _ _ k _ _ h d a=>h.trans (.row (lt_ c h.lo.size) d (kty_o k).2 a)
 numbers:=fun _ _ _ _ _ h d a=>h.trans (.row (lt_ c h.lo.size) d d_ a)
def more(ks:Fin 4->List Tl)(k:Fin 4)(x:Tl):Fin 4->List Tl:=dX ks k (ks k++[x])
def agr(N i:Nat)(S:BO)(x:Gz)(w:W_)(e:Ending)(w':W_):Prop:=
 e=.returned (.bool true)/\Kept S.gd w w'/\∃b a D t L M,t.cap<=9223372036854775807/\WI N { S with zs:=S.zs.set i { x with E:=b,E':=a,C:=D },ks:=more S.ks 3 t,n:=S.n+1,L:=L,M:=M } w'
theorem ad5(N i:Nat)(S:BO)(x:Gz)(c on a b:Int)(s:Y_)(A F u:Option Addr)(ne H K I J G:Nat)(w:W_)(h:WI N S w)(hx:S.zs[i]?=some x)(hN:N+s.size<=1099511627776)(hn:0<=S.n/\S.n<=1099511627776)(hts:(S.ks 3).length<=1099511627776) :
  Calls prog 12 #[p_ S.gw,.agg #[p_ x.g,p_ x.gs],.agg #[I_ c,I_ on,I_ a,I_ b,.string s,.slice A ne H,.slice F K I,.slice u J G]] w (agr (N+s.size) i S x w):=by
 have j:=bL ((h.below (kM (c_ #[p_ x.g,p_ x.gs] 63))).below (kM (c_ #[I_ c,I_ on,I_ a,I_ b,.string s,.slice A ne H,.slice F K I,.slice u J G] 44)));have U:Hid (dh ((w.alloc (c_ #[p_ x.g,p_ x.gs] 63)).alloc (c_ #[I_ c,I_ on,I_ a,I_ b,.string s,.slice A ne H,.slice F K I,.slice u J G] 44)) w.heap.size 63 [p_ x.g,p_ x.gs]):=cO (hn_ w _) _;have V:Hid (dh ((w.alloc (c_ #[p_ x.g,p_ x.gs] 63)).alloc (c_ #[I_ c,I_ on,I_ a,I_ b,.string s,.slice A ne H,.slice F K I,.slice u J G] 44)) (w.heap.size+1) 44 [I_ c,I_ on,I_ a,I_ b,.string s,.slice A ne H,.slice F K I,.slice u J G]):=by have z:=hn_ (w.alloc (c_ #[p_ x.g,p_ x.gs] 63)) (c_ #[I_ c,I_ on,I_ a,I_ b,.string s,.slice A ne H,.slice F K I,.slice u J G] 44);rw[wa_]at z;exact z
 have L:=bL hx;have DLW:Hid (∀v:W_,v=w->S.gd<=v.heap.size):=fun v e=>by rw[e];exact ll_ (bP h.d)
 have OP0:Hid (Kept S.gd w ((w.alloc (c_ #[p_ x.g,p_ x.gs] 63)).alloc (c_ #[I_ c,I_ on,I_ a,I_ b,.string s,.slice A ne H,.slice F K I,.slice u J G] 44))):=(Kept.alloc (ll_ (bP h.d)) _).trans (.alloc (by have:=bP h.d;simp;omega) _);clear h hx;go_in;go_upto_if 14 with (fail);generalize (w.alloc (c_ #[p_ x.g,p_ x.gs] 63)).alloc (c_ #[I_ c,I_ on,I_ a,I_ b,.string s,.slice A ne H,.slice F K I,.slice u J G] 44)=f at *;generalize w.heap.size=ga at *;have R:Hid (S.gd<=w.heap.size/\S.gd<=f.heap.size):=⟨DLW.o w rfl,ll_ (bP j.o.d)⟩;have PB:Hid (∀k,∀z∈S.ks k,∀g,z.ao=some (a_ g 0)->g<f.heap.size):=fun k z l=>(j.o.q.parts k z l).2;have FB:Hid (∀g,f.heap.size<=g->Far S.zs g):=fun g q z l=>by have k:=j.o.q.gz z l;obtain⟨xs,d⟩:=k.c.fB;obtain⟨n,e⟩:=k.d.fB;have:=bP d;have:=bP e;omega
 go_cut [7,8,9,10] from 12 (fun lv p e l d=>∃D Tk n t code,e=I_ code/\l=I_ code/\f.heap.size<=d.heap.size/\d.ownsRow f.heap.size 67 5 lv Tk.length (fw Tk)/\d.ownsRow f.heap.size 67 5 p Tk.length (fw Tk)/\WI (N+s.size) { S with zs:=S.zs.set i { x with E:=n,E':=t,C:=D } } d/\Kept S.gd f d)
 case first=>
  have d:=j.o.q.gz x (mg_ L.o);have g0:=bQ 0 U.o rfl;have g1:=bQ 1 U.o rfl;have o4:=bQ 4 V.o rfl;by_cases Q:c=3;subst Q;have e:=bL (aaD x.L x.g x.E x.C s f d.c (by have:=d.n1;omega));rotate_left;have dk:(c == 3)=false:=by simpa using Q
  have e:=bL (Rw x.L x.g x.E x.C f d.c (by have:=d.n1;omega));rotate_left;all_goals
   go_wp2_with fail;refine e.o.mono ?_;clear e;rintro e X ⟨D,Tk,vt,n,code,rfl,Y,T,q,l,Z,l2⟩;have S1:Hid (BM (oW x.L x.g) X x.g n D):=T;have G1:=bL q;have O1:=bL Y;have LL:=bL (And.intro l (And.intro Z l2));obtain⟨us,p⟩:=d.c.fB;obtain⟨vs,z⟩:=d.d.fB;have KD:Hid (Ds (oW x.L' x.gs) X x.gs x.E' x.C):=d.d.jr ⟨fun e=>gD z p d_ (oi_ e),fun O e cs t fr r=>by
    cases e;unfold dh at p;rw[p]at r;cases r;exact⟨d_,d_,fun e=>absurd e d_⟩⟩ q
   have KG1:=bL (bR U.o q (fun e=>gD U.o p d_ (oi_ e)));have KO1:=bL (bR V.o q (fun e=>gD V.o p d_ (oi_ e)));have O:Hid (x.E.s.size<=N/\x.E'.s.size<=N):=⟨d.n1,d.n2⟩;have SM:Hid (x.C.err=0->x.E=x.E'):=d.same;have OP1:Hid (Kept S.gd f X):=.grown (j.o.up.2 x (mg_ L.o)).1 p d_ q;have BV:=bL (bR z q (fun e=>gD z p d_ (oi_ e)));obtain⟨q1,f',-,-,-,r,t⟩:=d.d;have GR:=bL (And.intro r t);clear T q Y l Z l2 p z r t d g0 g1 o4;have g1:=bQ 1 KG1.o rfl;have o4:=bQ 4 KO1.o rfl
  have d:=bL (ad4 x.L' x.gs x.E' x.C s X KD.o (by have:=O.o.2;omega));rotate_left;have d:=bL (WG x.L' x.gs x.E' x.C X KD.o (by have:=O.o.2;omega));rotate_left;all_goals
   go_wp2_with fail;refine d.o.mono ?_;clear d;rintro e W2 ⟨D',p,vo,F2,De,rfl,r,l,d,q,Y,Z⟩;obtain⟨eD,eT,eC,t⟩:=Wp GR.o.1 GR.o.2 SM.o LL.o.2.1 LL.o.2.2 Y Z;subst eD eT eC
  have T:=bL (j.o.ajo L.o (N':=N+s.size) G1.o S1.o d l t o_ (by have:=LL.o.1;rw[nD]at this;have:=O.o.1;omega) (by rw[nD]at q;have:=O.o.2;omega));rotate_left;focus have T:=bL (j.o.ajo L.o (N':=N+s.size) G1.o S1.o d l t o_ (by have:=LL.o.1;rw[nD]at this;have:=O.o.1;have z:fJ.size=0:=rfl;omega) (by rw[nD]at q;have:=O.o.2;have z:fJ.size=0:=rfl;omega))
  all_goals
   have O2:Hid (W2.ownsRow f.heap.size 67 5 vt p.length (fw p)):=dO O1.o BV.o d_ d;have O3:Hid (W2.ownsRow f.heap.size 67 5 vo p.length (fw p)):=dH r G1.o.size;have OP2:Hid (Kept S.gd f W2):=OP1.o.trans (.grown (j.o.up.2 x (mg_ L.o)).2 BV.o d_ d);have SZ:Hid (f.heap.size<=W2.heap.size):=lt_ G1.o.size d.size;clear r l d q Y Z t;go_wp2;go_meet;case rel=>exact⟨D',p,n,F2,De,rfl,rfl,SZ.o,O2.o,O3.o,T.o,OP2.o⟩
 case rest=>
  obtain⟨D,Tk,n,t,code,rfl,rfl,q,l,hm,hW,d⟩:=hcut;obtain⟨Y,r,rfl,hc1,Z⟩:=lG l;have z:=bL (Qi _ _ Tk wc _ _ l hm);have HL:=bL l;have HW:=bL hW;have OPC:=bL d;have HZ:=bL q;clear l hm hW q d j U V;go_wp2_with fail;refine z.o.mono ?_;clear z;rintro e U ⟨rfl,q⟩;have j:=bL (HW.o.below q);have V:=bL (EK 3 (v:=vv S.n 3) (bW HL.o q dF));have Q3:Hid (WQ (N+s.size) f.heap.size { S with zs:=S.zs.set i { x with E:=n,E':=t,C:=D } } (S.zs.set i { x with E:=n,E':=t,C:=D }) U):=⟨j.o.q.w,j.o.q.im,j.o.q.sc,fun k z l=>⟨(j.o.q.parts k z l).1,PB.o k z l⟩,j.o.q.gz,lt_ HZ.o q.size,j.o.q.pic⟩;have OP3:Hid (Kept S.gd w U):=(OP0.o.trans OPC.o).trans (.below (ll_ (bP HW.o.d)) q);have l:Hid (∀(k:Fin 4) g,dX (fun _=>none) 3 Y k=some (a_ g 0)->k=3/\f.heap.size<=g):=fun k g e=>by
   by_cases d:k=3
   .subst d;rw[jd]at e;exact⟨rfl,V.o.2 g e⟩
   .rw [jI _ _ d]at e;cases e
  have z:Hid (KT (fun W=>WQ (N+s.size) f.heap.size { S with zs:=S.zs.set i { x with E:=n,E':=t,C:=D } } (S.zs.set i { x with E:=n,E':=t,C:=D }) W/\Kept S.gd w W) S.gd (dX (fun _=>none) 3 Y) (dX aS 3 r) aS (vv S.n) S.n S.L S.M (fun k=>(S.ks k).length) (fun k=>(S.ks k).length) (fun k=>(S.ks k).map fun x=>.slice x.ao x.cap x.cap) (fun k=>bY ((S.ks k).map (·.m))) U):=
   ⟨⟨Q3.o,OP3.o⟩,j.o.d,fun k=>by
    by_cases d:k=3
    .subst d;rw[jd,jd];exact V.o.1
    .rw [jI _ _ d,jI _ _ d];exact .inl ⟨rfl,rfl⟩,j.o.l,j.o.m,j.o.apn,fun k g e=>by cases e⟩
  have d:=bL (Gg _ S.gd _ Y Tk.length r _ S.n S.L S.M _ _ _ _ U ((WQ.lets (fun k g e=>⟨(l.o k g e).2,U9 (y:={ x with E:=n,E':=t,C:=D }) L.o rfl rfl rfl rfl (FB.o g (l.o k g e).2)⟩) j.o.yQ).and (Kept.lets S.L S.M R.o.1 (fun k g e=>lt_ R.o.2 (l.o k g e).2))) rfl rfl hn Z ⟨hts,hts⟩ z.o);have c2:=bQ 2 j.o.q.w rfl;clear q V Q3 z l;go_wp2_with fail;refine d.o.mono ?_;clear d c2;rintro e w4 ⟨rfl,vl,vn,Q,q⟩;have WF:=bL (WI.kept (more S.ks 3 ⟨Y,r,S.n+1⟩) Q.fst (fun k z l=>by
   by_cases d:k=3
   .subst d;rw[more,jd]at l;rcases ma_.1 l with h | h
    .exact .inl h
    .simp at h;subst h;exact .inr ⟨rfl,rfl,rfl,rfl⟩
   .rw [more,jI _ _ d]at l;exact .inl l) (fun k=>by
   by_cases d:k=3
   .subst d;rw[more,jd,jd,jd];simp[jd]
   .rw [more,jI _ _ d,jI _ _ d,jI _ _ d];exact⟨rfl,rfl⟩) (fun k=>by
   by_cases d:k=3
   .subst d;rw[more,jd,jd,jd];simp[bY]
   .rw [more,jI _ _ d,jI _ _ d,jI _ _ d];exact⟨rfl,rfl⟩) (fun k g e=>by
   by_cases d:k=3
   .subst d;rw[jd]at e;exact (q g e).imp id (fun ⟨V,z,l⟩=>⟨V,z.1,l⟩)
   .rw [jI _ _ d]at e;exact .inl e) j.o.yQ j.o.ap j.o.up)
  have l:=bL Q.q.2;clear Q q;go_wp2_with fail;refine (AQ code _).mono ?_;rintro e q ⟨rfl,rfl⟩;go_wp2;go_ret;exact⟨rfl,l.o,n,t,D,⟨Y,r,S.n+1⟩,_,_,Z,WF.o⟩
theorem Tryz.infg63 : (prog.info? 63).map (fun i=>(i.zero,i.size,i.bytes))=some (some (.agg #[.pointer none,.pointer none]),2,16):=k_
theorem Xa(zs:List Gz)(x:Gz):xw (zs++[x])=xw zs++[p_ x.g,p_ x.gs]:=by simp[xw]
section
variable {N:Nat} {S:BO} {W W':W_}
theorem WI.gauge(h:WI N S W){x:Gz}{q:V_}(I:GOK N W x)(A:S.gd<=x.g/\S.gd<=x.gs)(n:W.grownBy W' S.QF.ownBlock)(H:W'.ownsRow S.gd 63 2 q (S.zs.length+1) (xw S.zs++[p_ x.g,p_ x.gs]))
  (G:∀k b,(S.M k).ownBlock=some b->¬(x.L<=b/\b<x.g)/\¬(x.L'<=b/\b<x.gs)) (C:∀y∈S.zs,y.g≠x.g/\y.gs≠x.gs) :
  WI N { S with zs:=S.zs++[x],QF:=q } (W'.setCell (a_ S.gw 1) q):=by
 have f:=fq h.q.sc h.q.w d_ n;have p:=gs_ W' S.gw 1 q;have D:∀(y:Gz),GOK N W y->GOK N (W'.setCell (a_ S.gw 1) q) y:=by
  intro y k;obtain⟨xs,i⟩:=k.c.fB;obtain⟨K,z⟩:=k.d.fB;have v:∀(L g:Nat) (t:TypeId) (d:List V_),dh W g t d->t≠63->Safe W L g S.QF.ownBlock:=by
   intro L g t d l u;refine⟨fun e=>?_,fun b e E J fr c=>?_⟩
   .rcases h.q.sc.2 with ⟨a,_⟩ | ⟨F,r,s,a,_,j,_⟩
    .rw [a]at e;cases e
    .rw [a]at e;cases e;unfold dh at l;rw[l]at j;cases j;exact u rfl
   .rcases h.q.sc.2 with ⟨a,_⟩ | ⟨F,r,s,a,_,j,_⟩
    .rw [a]at e;cases e
    .rw [a]at e;cases e;rw[j]at c;cases c;exact⟨d_,d_,fun e=>absurd e d_⟩
  have a:∀(L g:Nat) (t:TypeId) (d:List V_),dh W' g t d->t≠37->Safe W' L g (some S.gw):=by intro L g t d l u;refine⟨fun e=>gD l f u (oi_ e),fun b e E J fr c=>?_⟩;cases e;unfold dh at f;rw[f]at c;cases c;exact⟨d_,d_,fun e=>absurd e d_⟩
  have j:=k.c.jr (v _ _ _ _ i d_) n;have r:=k.d.jr (v _ _ _ _ z d_) n;obtain⟨l,c⟩:=j.fB;obtain⟨s,e⟩:=r.fB;exact⟨j.jr (a _ _ _ _ c d_) p,r.jr (a _ _ _ _ e d_) p,k.same,k.n1,k.n2⟩
 have r:=fq h.q.sc h.d d_ n;have sz:(W'.setCell (a_ S.gw 1) q).heap.size=W'.heap.size:=by simp[World.setCell]
 refine⟨⟨cK f 1 q,dO (eX h.q.im h.q.sc d_ n) f d_ p,?_,fun k z a=>⟨?_,fun g e=>?_⟩,fun z a=>?_,dF,fun z a=>⟨(h.q.pic z a).sz,fun g e=>⟨((h.q.pic z a).r g e).1,(((h.q.pic z a).r g e).2.1.row h.q.sc d_ d_ d_ n).on f d_ d_ d_ p,((h.q.pic z a).r g e).2.2⟩⟩⟩,bU r (gD r f d_) _ _,fun k=>dO (eX (h.l k) h.q.sc (yf k).2.2.1.2.2 n) f (yf k).2.2.1.1.symm p,fun k=>dO (eX (h.m k) h.q.sc d_ n) f d_ p,fun k b l=>⟨fun z a=>?_,(h.yQ k b l).2⟩,h.apn,?_,h.up.1,fun z a=>?_⟩
 .rw [Xa,la_,List.length_singleton];exact dO H f d_ p
 .refine (h.q.parts k z a).1.jr (fun g xs _ l=>?_);have i:=fq h.q.sc l (zx k).2.2.1.2.2 n;exact bU i (gD i f (zx k).2.2.1.1) _ _
 .have:=(h.q.parts k z a).2 g e;have:=n.size;rw[sz];omega
 .rcases ma_.1 a with a | a
  .exact D z (h.q.gz z a)
  .simp at a;subst a;exact D z I
 .rcases ma_.1 a with a | a
  .exact (h.yQ k b l).1 z a
  .simp at a;subst a;exact G k b l
 .intro i j u v c d s;rw[List.getElem?_append]at c d;split at c <;> split at d
  .exact h.ap i j u v c d s
  .have e:v=x:=by
    rw[List.getElem?_singleton]at d;split at d
    .cases d;rfl
    .cases d
   subst e;exact C u (mg_ c)
  .have e:u=x:=by
    rw[List.getElem?_singleton]at c;split at c
    .cases c;rfl
    .cases c
   subst e;have:=C v (mg_ d);exact⟨fun e=>this.1 e.symm,fun e=>this.2 e.symm⟩
  .rw [List.getElem?_singleton]at c d;split at c
   .split at d
    .omega
    .cases d
   .cases c
 .rcases ma_.1 a with a | a
  .exact h.up.2 z a
  .simp at a;subst a;exact A
end
theorem acE{s:Y_}{c:List aC}{b a:Int}{e:Ending}(p:s=strOfNums (Pu.rT (nH c)))(l:gu (nH c))(h:I9 c b a w e w'):sK s b a w e w':=by
 have d:=Gb l;rw[<-p]at d;have fr:Form s/\gu (eG s):=⟨d.1,by rw[d.2];exact l⟩;rcases h with ⟨f,g,i,j,n,k⟩ | ⟨f,i,j⟩
 .rw [<-d.2]at k;exact .inl ⟨⟨fr,f⟩,g,i,j,n,k⟩
 .exact .inr (.inr ⟨fr,f,i,j⟩)
def afw(N:Nat)(S:BO)(s:Y_)(b a:Int)(w:W_)(e:Ending)(w':W_):Prop:=
 e=.returned (.bool true)/\Kept S.gd w w'/\((¬rX s b a/\WI N S w')\/(rX s b a/\∃x c,WI N { S with zs:=S.zs++[x],QF:=c } w'))
theorem Jg(N:Nat)(S:BO)(pc:V8)(c a:Int)(w:W_)(h:WI N S w)(x:pc∈S.kU\/pc.g=none/\pc.s.size<=9223372036854775807)(rm:Nz c)(Z:Nz a)(hz:S.zs.length<=1099511627776) :
  Calls prog 9 #[p_ S.gw,.agg #[.string pc.s,.pointer (pc.g.map fun g=>(a_ g 0))],I_ c,I_ a] w (afw N S pc.s c a w):=by
 obtain⟨aU,X,R,T,U⟩:=ip_ infg63;have hs:pc.s.size<=9223372036854775807:=by
  rcases x with b | b
  .exact (h.q.pic pc b).sz
  .exact b.2
 have k:Hid (∀g,pc.g=some g->∀V,WI N S V->C_ 20 #[p_ g,I_ c,I_ a] V (sK pc.s c a V)):=fun g hg V J=>by
  have b:pc∈S.kU:=by
   rcases x with b | b
   .exact b
   .rw [hg]at b;cases b.1
  have pk:=(J.q.pic pc b).r g hg;have l:gu (nH pc.all):=by obtain⟨B,v,y,n,p,e,q,t,u⟩:=pk.2.1;exact tu e pk.2.2
  exact (Ho g pc.all c a V pk.2.1 pk.2.2 rm Z).mono (fun e w' z=>acE pk.1 l z)
 have b:Hid (∀V,WI N S V->C_ 21 #[.string pc.s,I_ c,I_ a] V (sK pc.s c a V)):=fun V _=>Mj pc.s c a V hs rm Z;have r:=bL (h.below (kM (c_ #[.string pc.s,.pointer (pc.g.map fun g=>(a_ g 0))] 56)));have D:Hid (dh (w.alloc (c_ #[.string pc.s,.pointer (pc.g.map fun g=>(a_ g 0))] 56)) w.heap.size 56 [.string pc.s,.pointer (pc.g.map fun g=>(a_ g 0))]):=hn_ w _;have K:Hid (Kept S.gd w (w.alloc (c_ #[.string pc.s,.pointer (pc.g.map fun g=>(a_ g 0))] 56))):=.alloc (ll_ (bP h.d)) _;clear h x;obtain⟨s,all,Y⟩:=pc;have DS:Hid (∀V,WI N S V->Y.elim (C_ 21 #[.string s,I_ c,I_ a] V (sK s c a V)) (fun g=>C_ 20 #[p_ g,I_ c,I_ a] V (sK s c a V))):=fun V J=>by
  cases Y with
  | none=>exact b.o V J
  | some g=>exact k.o g rfl V J
 clear k b;cases Y with
 | none | some gT=>
  simp only[Option.map_none,Option.map_some,Option.elim_none,Option.elim_some]at *;go_in;go_wp2_with fail;generalize w.alloc (c_ #[.string s,.pointer _] 56)=C at *;generalize w.heap.size=ga at *;refine (Ul s c a C hs rm Z).mono ?_;rintro e F (⟨q,g,rfl,b,f,k⟩ | ⟨hF,rfl,f⟩ | ⟨hF,G,rfl,f⟩);all_goals
   have A:=bL (r.o.below f);have L:=bL (K.o.trans (.below (ll_ (bP r.o.d)) f));have i:=bL (bO D.o f (bP D.o));have aS:=bQ 0 i.o rfl;have l:=bQ 1 i.o rfl
  have OK:=bL q;have S1:=bL k;have O:Hid (C.heap.size<=g/\C.heap.size<=F.heap.size):=⟨b,f.size⟩;clear f k b D;rotate_left;have H:Hid (¬rX s c a):=fun z=>hF z.1;clear f r D;rotate_left;have H:Hid (¬rX s c a):=fun z=>G z.2;clear f r D;rotate_left;all_goals
   go_wp2_with fail;refine (DS.o F A.o).mono ?_;clear aS l
  focus
   rintro e z (⟨l,p,rfl,v,d,I⟩ | ⟨G,rfl,d⟩ | ⟨_,G,rfl,d⟩);rotate_left
   .exact absurd q.1 G
   .exact absurd q.2 G
  rotate_left;focus
   rintro e z (⟨l,p,rfl,v,d,I⟩ | ⟨n,rfl,d⟩ | ⟨n,Q,rfl,d⟩)
   .exact absurd l H.o
   rotate_left
   .exact absurd n hF
  rotate_left;rintro e z (⟨l,p,rfl,v,d,I⟩ | ⟨n,rfl,d⟩ | ⟨n,Q,rfl,d⟩)
  .exact absurd l H.o
  .exact absurd hF n
  rotate_left;all_goals
   have t:=bL (A.o.below d);have E:=bL (L.o.trans (.below (ll_ (bP A.o.d)) d))
  .have GX:Hid (GOK N z ⟨g,p,C.heap.size,F.heap.size,xR (eG s) c a,xR (eG s) c a,rP (eG s)⟩):=⟨S1.o.below d,I,fun _=>rfl,zl_ _,zl_ _⟩;have FX:Hid (∀k b,(S.M k).ownBlock=some b->¬(C.heap.size<=b/\b<g)/\¬(F.heap.size<=b/\b<p)):=fun k b u=>by have:=(ol_ (r.o.m k) b u).2;have:=O.o;omega
   have dl2:S.gd<z.heap.size:=bP t.o.d;have UP:Hid (S.gd<=g/\S.gd<=p):=by have:=bP r.o.d;have:=O.o;exact⟨o_,o_⟩
   have NX:Hid (∀y∈S.zs,y.g≠g/\y.gs≠p):=fun y hy=>by have k:=r.o.q.gz y hy;obtain⟨xs,u⟩:=k.c.fB;obtain⟨ys,b⟩:=k.d.fB;have:=bP u;have:=bP b;have:=O.o;omega
   have wl:=bP t.o.q.w;have ne1:S.gw≠z.heap.size:=o_;have uC:z.heap.size≠S.gw:=o_;have c1:=bQ 1 t.o.q.w rfl;clear d I q l v S1 A i r;go_wp2_with fail;refine (AQ 0 _).mono ?_;rintro e w5 ⟨rfl,rfl⟩;go_wp2_with (at_builtin;refine wo_ _ rfl (.tmp 57) (.tmp 61) 35 rfl S.gd 63 aU (.agg #[.pointer none,.pointer none]) 2 16 underlying35 X R T U rfl d_ S.QF S.zs.length (xw S.zs) rfl (oa_ t.o.q.sc _) (a_ w5.heap.size 0) 1 1 [p_ g,p_ p] rfl rfl (jc rfl) (by intro u b;simp at b;rcases b with rfl | rfl <;> rfl) (by unfold maxLen;omega) o_ (by simp;omega) ?_;intro v2 wa di y _;obtain⟨aq,cq,rfl,h5,h6⟩:=lG di;have b:=(t.o.below (kM (c_ #[p_ g,p_ p] 63)));have u:=fq b.q.sc b.q.w d_ y;have c1':=bN (j:=1) u rfl;have z1:=bM u 1);go_ret;have k:GOK N _ ⟨g,p,C.heap.size,F.heap.size,xR (eG s) c a,xR (eG s) c a,rP (eG s)⟩:=⟨GX.o.c.below (kM (c_ #[p_ g,p_ p] 63)),GX.o.d.below (kM _),fun _=>rfl,zl_ _,zl_ _⟩;exact⟨rfl,((E.o.trans (.alloc (ll_ (bP t.o.d)) _)).trans (.row (ll_ (bP b.d)) b.q.sc d_ y)).trans (.cell b.up.1 u d_ _ _),.inr ⟨OK.o,_,_,b.gauge k UP.o y di FX.o NX.o⟩⟩
  focus
   clear d A i;go_wp2_with fail;refine (AQ 2 _).mono ?_
  rotate_left;focus
   clear d A i;go_wp2_with fail;refine (AQ 3 _).mono ?_
  all_goals
   rintro e w5 ⟨rfl,rfl⟩;go_wp2;go_ret;exact⟨rfl,E.o,.inl ⟨H.o,t.o⟩⟩
def QV(c n:Int):Int:=if c<0 then (-(c+1)) % n else c % n
theorem Ma(c:Int){n:Nat}(h:0<n):0<=QV c n/\QV c n<n:=by
 unfold QV;split;all_goals
  exact⟨Int.emod_nonneg _ o_,Int.emod_lt_of_pos _ o_⟩
theorem VH(c n:Int)(w:W_)(b:Nz c)(i:0<n)(g:n<=1099511627776) :
  Calls prog 11 #[I_ c,I_ n] w (rV (I_ (QV c n)) w):=by
 have d:=b.1;have e:=b.2;by_cases h:c<0;have a:QV c n=-(c+1).tmod n:=by unfold QV;rw[if_pos h,<-Int.neg_tmod,Int.tmod_eq_emod_of_nonneg o_]
 rw[a];have f:decide (c<0)=true:=by simpa using h
 rotate_left;focus
  have a:QV c n=c % n:=by unfold QV;rw[if_neg h]
  rw[a];have f:decide (c<0)=false:=by simpa using h
 all_goals
  go_in;go_wp2;go_ret;exact⟨rfl,rfl⟩
theorem Yj(l:List V8)(x:V8):wT (l++[x])=wT l++[.string x.s,.pointer (x.g.map fun g=>(a_ g 0))]:=by simp[wT]
section
variable {N:Nat} {S:BO} {W W':W_}
theorem WI.image(h:WI N S W){pc:V8}{f:V_}(D:I7 W pc)(d:W.grownBy W' S.Bj.ownBlock)(C:W'.ownsRow S.gd 56 2 f (S.kU.length+1) (wT S.kU++[.string pc.s,.pointer (pc.g.map fun g=>(a_ g 0))])) :
  WI N { S with kU:=S.kU++[pc],Bj:=f } (W'.setCell (a_ S.gw 0) f):=by
 have c:=fq h.q.im h.q.w d_ d;have i:=gs_ W' S.gw 0 f;have E:∀(y:Gz),GOK N W y->GOK N (W'.setCell (a_ S.gw 0) f) y:=by
  intro y k;obtain⟨xs,p⟩:=k.c.fB;obtain⟨G,x⟩:=k.d.fB;have v:∀(L g:Nat) (t:TypeId) (n:List V_),dh W g t n->t≠56->Safe W L g S.Bj.ownBlock:=by
   intro L g t n j u;refine⟨fun e=>?_,fun b e z F fr l=>?_⟩
   .rcases h.q.im.2 with ⟨a,_⟩ | ⟨A,r,s,a,_,q,_⟩
    .rw [a]at e;cases e
    .rw [a]at e;cases e;unfold dh at j;rw[j]at q;cases q;exact u rfl
   .rcases h.q.im.2 with ⟨a,_⟩ | ⟨A,r,s,a,_,q,_⟩
    .rw [a]at e;cases e
    .rw [a]at e;cases e;rw[q]at l;cases l;exact⟨d_,d_,fun e=>absurd e d_⟩
  have a:∀(L g:Nat) (t:TypeId) (n:List V_),dh W' g t n->t≠37->Safe W' L g (some S.gw):=by intro L g t n j u;refine⟨fun e=>gD j c u (oi_ e),fun b e z F fr l=>?_⟩;cases e;unfold dh at c;rw[c]at l;cases l;exact⟨d_,d_,fun e=>absurd e d_⟩
  have l:=k.c.jr (v _ _ _ _ p d_) d;have b:=k.d.jr (v _ _ _ _ x d_) d;obtain⟨q,e⟩:=l.fB;obtain⟨r,j⟩:=b.fB;exact⟨l.jr (a _ _ _ _ e d_) i,b.jr (a _ _ _ _ j d_) i,k.same,k.n1,k.n2⟩
 have b:=fq h.q.im h.d d_ d;have sz:(W'.setCell (a_ S.gw 0) f).heap.size=W'.heap.size:=by simp[World.setCell]
 refine⟨⟨cK c 0 f,?_,dO (eX h.q.sc h.q.im d_ d) c d_ i,fun k z a=>⟨?_,fun g e=>?_⟩,fun z a=>E z (h.q.gz z a),dF,fun z a=>?_⟩,bU b (gD b c d_) _ _,fun k=>dO (eX (h.l k) h.q.im (yf k).2.2.1.2.1 d) c (yf k).2.2.1.1.symm i,fun k=>dO (eX (h.m k) h.q.im d_ d) c d_ i,h.yQ,h.apn,h.ap,h.up⟩
 .rw [Yj,la_,List.length_singleton];exact dO C c d_ i
 .refine (h.q.parts k z a).1.jr (fun g xs _ j=>?_);have p:=fq h.q.im j (zx k).2.2.1.2.1 d;exact bU p (gD p c (zx k).2.2.1.1) _ _
 .have:=(h.q.parts k z a).2 g e;have:=d.size;rw[sz];omega
 .have j:∀(y:V8),I7 W y->I7 (W'.setCell (a_ S.gw 0) f) y:=fun y k=>
   ⟨k.sz,fun g e=>⟨(k.r g e).1,((k.r g e).2.1.row h.q.im d_ d_ d_ d).on c d_ d_ d_ i,(k.r g e).2.2⟩⟩
  rcases ma_.1 a with a | a
  .exact j z (h.q.pic z a)
  .simp at a;subst a;exact j z D
end
end Go.Proofs.YtmccnmgaoppogabGreat
