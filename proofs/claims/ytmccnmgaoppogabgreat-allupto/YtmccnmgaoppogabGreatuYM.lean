import Derived.Test.YtmccnmgaoppogabGreatuYL
import Derived.Test.YtmccnmgaoppogabGreatuKby
namespace Go.Proofs.YtmccnmgaoppogabGreat
open Pu
set_option linter.all false
open Go.Proofs.Tryz Tryz
set_option maxRecDepth 100000
set_option maxHeartbeats 8000000
open Go.RowKit
theorem vL{zs:List Gz}{k:Nat}{x:Gz}(h:zs[k]?=some x):(xw zs)[k*2]?=some (p_ x.g)/\(xw zs)[k*2+1]?=some (p_ x.gs):=by
 induction zs generalizing k with
 | nil=>simp at h
 | cons z r a=>
  cases k with
  | zero=>simp at h;subst h;simp[xw]
  | succ k=>have:=a (k:=k) (by simpa using h);have e:xw (z::r)=[p_ z.g,p_ z.gs]++xw r:=rfl;rw[e,ar_ (by simp;omega),ar_ (by simp;omega),show (k+1)*2 - [p_ z.g,p_ z.gs].length=k*2 by simp;omega,show (k+1)*2+1 - [p_ z.g,p_ z.gs].length=k*2+1 by simp;omega];exact this
theorem vV{l:List V8}{k:Nat}{x:V8}(h:l[k]?=some x):(wT l)[k*2]?=some (.string x.s)/\(wT l)[k*2+1]?=some (.pointer (x.g.map fun g=>(a_ g 0))):=by
 induction l generalizing k with
 | nil=>simp at h
 | cons z r a=>
  cases k with
  | zero=>simp at h;subst h;simp[wT]
  | succ k=>have:=a (k:=k) (by simpa using h);have e:wT (z::r)=[.string z.s,.pointer (z.g.map fun g=>(a_ g 0))]++wT r:=rfl;rw[e,ar_ (by simp;omega),ar_ (by simp;omega),show (k+1)*2 - [Value.string z.s,Value.pointer (z.g.map fun g=>(a_ g 0))].length=k*2 by simp;omega,show (k+1)*2+1 - [Value.string z.s,Value.pointer (z.g.map fun g=>(a_ g 0))].length=k*2+1 by simp;omega];exact this
theorem WI.grow{N N':Nat}{S:BO}{W:W_}(h:WI N S W)(b:N<=N'):WI N' S W:=
 ⟨⟨h.q.w,h.q.im,h.q.sc,h.q.parts,fun x a=>⟨(h.q.gz x a).c,(h.q.gz x a).d,(h.q.gz x a).same,lt_ (h.q.gz x a).n1 b,lt_ (h.q.gz x a).n2 b⟩,h.q.sz,h.q.pic⟩,h.d,h.l,h.m,h.yQ,h.apn,h.ap,h.up⟩
structure Nx(S S':BO):Prop where
 w:S'.gw=S.gw/\S'.gd=S.gd
 im:S'.kU.length<=S.kU.length+1
 zs:S'.zs.length<=S.zs.length+1
 ks:∀j,(S'.ks j).length<=(S.ks j).length+2
 n:0<=S'.n/\S'.n<=S.n+6
 cap:∀j,∀x∈S'.ks j,x∈S.ks j\/x.cap<=9223372036854775807
 le:(∀j,j≠3->(S.ks j).length=(S.ks 0).length)->∀j,j≠3->(S'.ks j).length=(S'.ks 0).length
def afD(N:Nat)(S:BO)(w:W_)(e:Ending)(w':W_):Prop:=
 e=.returned (.bool true)/\Below S.gd w w'/\∃a,Nx S a/\WI N a w'
theorem ahl{S:BO}{t:Tl}{L M:Fin 4->V_}{k:Nat}{y:Gz}(e:0<=S.n)(d:t.cap<=9223372036854775807):Nx S { S with zs:=S.zs.set k y,ks:=more S.ks 3 t,n:=S.n+1,L:=L,M:=M }:=
 ⟨⟨rfl,rfl⟩,by show S.kU.length<=_;omega,by show (S.zs.set k y).length<=_;rw[le_];omega,fun j=>by
  show (more S.ks 3 t j).length<=_;by_cases b:j=3
  .subst b;rw[more,jd];simp
  .rw [more,jI _ _ b];omega,⟨by show 0<=S.n+1;omega,by show S.n+1<=_;omega⟩,fun j x a=>by
  by_cases b:j=3
  .subst b;have a:x∈more S.ks 3 t 3:=a;rw[more,jd]at a;exact (ma_.1 a).imp id (fun h=>by rw[List.mem_singleton.1 h];exact d)
  .have a:x∈more S.ks 3 t j:=a;rw[more,jI _ _ b]at a;exact .inl a,fun h j c=>by
  show (more S.ks 3 t j).length=(more S.ks 3 t 0).length;rw[more,jI _ _ c,jI _ _ d_];exact h j c⟩
theorem zW(ks:Fin 4->List Tl)(a b c:Tl)(j:Fin 4):(more (more (more ks 0 a) 1 b) 2 c j).length=(ks j).length+(if j=3 then 0 else 1):=by
 match j with
 | ⟨0,_⟩=>exact la_
 | ⟨1,_⟩=>exact la_
 | ⟨2,_⟩=>exact la_
 | ⟨3,_⟩=>rfl
theorem pU{ks:Fin 4->List Tl}{c d e x:Tl}{j:Fin 4}(a:x∈more (more (more ks 0 c) 1 d) 2 e j)(b:c.cap<=9223372036854775807/\d.cap<=9223372036854775807/\e.cap<=9223372036854775807):x∈ks j\/x.cap<=9223372036854775807:=by
 match j,a with
 | ⟨0,_⟩,a=>exact (ma_.1 (show x∈ks 0++[c] from a)).imp id (fun h=>by rw[List.mem_singleton.1 h];exact b.1)
 | ⟨1,_⟩,a=>exact (ma_.1 (show x∈ks 1++[d] from a)).imp id (fun h=>by rw[List.mem_singleton.1 h];exact b.2.1)
 | ⟨2,_⟩,a=>exact (ma_.1 (show x∈ks 2++[e] from a)).imp id (fun h=>by rw[List.mem_singleton.1 h];exact b.2.2)
 | ⟨3,_⟩,a=>exact .inl a
theorem afX{S a:BO}(h:a.gw=S.gw/\a.gd=S.gd/\a.kU=S.kU/\a.zs=S.zs)(g:∀j,(a.ks j).length<=(S.ks j).length+2)(k:0<=a.n/\a.n<=S.n+6)(e:∀j,∀x∈a.ks j,x∈S.ks j\/x.cap<=9223372036854775807)(i:∃d,∀j,j≠3->(a.ks j).length=(S.ks j).length+d):Nx S a:=
 ⟨⟨h.1,h.2.1⟩,by rw[h.2.2.1];omega,by rw[h.2.2.2];omega,g,k,e,fun f j c=>by
  obtain⟨d,b⟩:=i;rw[b j c,b 0 d_,f j c]⟩
theorem Y9(N:Nat)(S:BO)(c on a b:Int)(s:Y_)(G H F:Option Addr)(ne O T Q R J:Nat)(w:W_)(h:WI N S w)(hN:N+s.size<=1099511627776)(hn:0<=S.n/\S.n+6<=1099511627776)(hks:∀j,(S.ks j).length+2<=1099511627776)(hzs:S.zs.length<=1099511627776)(him:S.kU.length<=1099511627776)(sS:zo s)
  (ra:Nz a) (rb:Nz b) (ro:Nz on) (V:c=8\/c=2\/c=3\/c=4\/c=9\/c=7\/c=5\/c=1\/c=6)
  (hP:∃p:lZ,om w (.slice G ne O) p.ents/\jX w (.slice H T Q) p.rules/\Code w (.slice F R J) p.code/\p.ents.length*8<=140737488351232/\p.rules.length*24<=140737488351232/\p.code.length*32<=140737488351232) :
  Calls prog 6 #[p_ S.gw,.agg #[I_ c,I_ on,I_ a,I_ b,.string s,.slice G ne O,.slice H T Q,.slice F R J]] w (afD (N+s.size) S w):=by
 have HM:=bL sS;clear sS;obtain⟨ai,ci,Y,i1,i2⟩:=lG h.q.im;obtain⟨az,cz,ez,s1,s2⟩:=lG h.q.sc;have r:=bL (h.below (kM (c_ #[I_ c,I_ on,I_ a,I_ b,.string s,.slice G ne O,.slice H T Q,.slice F R J] 44)));have z:Hid (dh (w.alloc (c_ #[I_ c,I_ on,I_ a,I_ b,.string s,.slice G ne O,.slice H T Q,.slice F R J] 44)) w.heap.size 44 [I_ c,I_ on,I_ a,I_ b,.string s,.slice G ne O,.slice H T Q,.slice F R J]):=hn_ w _;have HP:Hid (∃p:lZ,om (w.alloc (c_ #[I_ c,I_ on,I_ a,I_ b,.string s,.slice G ne O,.slice H T Q,.slice F R J] 44)) (.slice G ne O) p.ents/\jX (w.alloc (c_ #[I_ c,I_ on,I_ a,I_ b,.string s,.slice G ne O,.slice H T Q,.slice F R J] 44)) (.slice H T Q) p.rules/\Code (w.alloc (c_ #[I_ c,I_ on,I_ a,I_ b,.string s,.slice G ne O,.slice H T Q,.slice F R J] 44)) (.slice F R J) p.code/\p.ents.length*8<=140737488351232/\p.rules.length*24<=140737488351232/\p.code.length*32<=140737488351232):=by obtain⟨p,e,g,u,v⟩:=hP;have B:B_ w (w.alloc (c_ #[I_ c,I_ on,I_ a,I_ b,.string s,.slice G ne O,.slice H T Q,.slice F R J] 44)):=kM _;exact⟨p,e.below B,g.below B,u.below B,v⟩
 clear hP;have wl:=bP h.q.w;have I:=bQ 0 h.q.w rfl;rw[Y]at I;have ne1:S.gw≠w.heap.size:=o_;have uC:w.heap.size≠S.gw:=o_;have LO:Hid (Below S.gd w (w.alloc (c_ #[I_ c,I_ on,I_ a,I_ b,.string s,.slice G ne O,.slice H T Q,.slice F R J] 44))):=(Br_ _ _).alloc (ll_ (bP h.d)) _;clear h;go_in;go_upto_region 2 with (fail);clear I ne1 uC wl;generalize w.alloc (c_ #[I_ c,I_ on,I_ a,I_ b,.string s,.slice G ne O,.slice H T Q,.slice F R J] 44)=f at *;generalize w.heap.size=i at *;have o0:=bQ 0 z.o rfl;have X:=bQ 1 z.o rfl;have o2:=bQ 2 z.o rfl;have o3:=bQ 3 z.o rfl;have o4:=bQ 4 z.o rfl;have I:=bQ 0 r.o.q.w rfl;have Z:=bQ 1 r.o.q.w rfl;rw[Y]at I;rw[ez]at Z;have NX:Hid (Nx S S):=⟨⟨rfl,rfl⟩,o_,o_,fun _=>o_,⟨hn.1,o_⟩,fun _ _ h=>.inl h,fun h=>h⟩;have q:Hid (∀W,Below S.gd f W->WI N S W->afD (N+s.size) S w (.returned (.bool true)) W):=fun W B g=>⟨rfl,LO.o.trans B,S,NX.o,g.grow o_⟩;by_cases k9:c=9
 .subst k9;by_cases hz:0<S.zs.length
  .have hz1:=oL (0:Int) (S.zs.length:Int);obtain⟨k,V,U⟩:∃k:Nat,QV on S.zs.length=(k:Int)/\k<S.zs.length:=by have:=Ma on hz;exact⟨(QV on S.zs.length).toNat,o_,o_⟩
   obtain⟨x,K⟩:=rG S.zs k U;obtain⟨v,cz',e,-,-⟩:=dL r.o.q.sc hz;rw[ez]at e;cases e;have SC:=r.o.q.sc;rw[ez]at SC;have u:Hid (∀W,C_ 11 #[I_ on,I_ S.zs.length] W (rV (I_ k) W)):=fun W=>by have:=VH on S.zs.length W ro o_ o_;rwa[V]at this
   have A:=Below.drew (Br_ f.heap.size f);have g:=(r.o.below A).q.gz x (mg_ K);have D:=bL (Ou x.g x.gs _ _ x.E x.E' x.C f.drew g.c g.d (fun h=>by rw[g.same h]));have S1:f.drew.cell? (a_ S.gw 1)=some (s_ v S.zs.length cz)/\f.drew.cell? (a_ i 1)=some (I_ on)/\f.drew.cell? (a_ v (k*2))=some (p_ x.g)/\f.drew.cell? (a_ v (k*2+1))=some (p_ x.gs):=⟨Z,X,bV SC (vL K).1,bV SC (vL K).2⟩;have IC:=jJ k;have ik2:(k:Int)<S.zs.length:=o_;have W:Hid (∀d,B_ f.drew d->d.cell? (a_ S.gw 1)=some (s_ v S.zs.length cz)/\d.cell? (a_ i 1)=some (I_ on)/\d.cell? (a_ v (k*2))=some (p_ x.g)/\d.cell? (a_ v (k*2+1))=some (p_ x.gs)):=fun d B=>
    ⟨(B.cell (p:=(a_ S.gw 1)) (bP r.o.q.w)).trans S1.1,(B.cell (p:=(a_ i 1)) (bP z.o)).trans S1.2.1,(B.cell (p:=(a_ v (k*2))) (iN SC).2).trans S1.2.2.1,(B.cell (p:=(a_ v (k*2+1))) (iN SC).2).trans S1.2.2.2⟩
   clear g A K V;go_wp2_with fail;clear I Z o0 X o2 o3 o4;go_region_held3 (fun d=>d.cell? (a_ S.gw 1)=some (s_ v S.zs.length cz)/\d.cell? (a_ i 1)=some (I_ on)/\d.cell? (a_ v (k*2))=some (p_ x.g)/\d.cell? (a_ v (k*2+1))=some (p_ x.gs)) (first | assumption | exact W.o _ B) (first | (go_at_call 11;refine (u.o _).mono ?_;rintro e d ⟨rfl,rfl⟩) | (go_at_call 16;refine D.o.mono ?_;rintro e d ⟨rfl,B⟩));have W1:=bL ((r.o.below (Below.drew (Br_ f.heap.size f))).below B);have A:Hid (Below S.gd f d):=(Br_ S.gd f).drew.trans (B.mono (ll_ (bP r.o.d)));go_wp2;go_ret;exact q.o _ A.o W1.o
  .have g:=nI (0:Int) (S.zs.length:Int);go_wp2;go_ret;exact q.o _ (Br_ _ _) r.o
 by_cases k34:c=3\/c=4
 .have q1:(c == 1)=false:=by simp;omega
  have q2:(c == 2)=false:=by simp;omega
  by_cases hz:0<S.zs.length
  .have hz1:=oL (0:Int) (S.zs.length:Int);obtain⟨k,V,U⟩:∃k:Nat,QV on S.zs.length=(k:Int)/\k<S.zs.length:=by have:=Ma on hz;exact⟨(QV on S.zs.length).toNat,o_,o_⟩
   obtain⟨x,K⟩:=rG S.zs k U;obtain⟨v,cz',e,-,-⟩:=dL r.o.q.sc hz;rw[ez]at e;cases e;have SC:=r.o.q.sc;rw[ez]at SC;have u:Hid (∀W,C_ 11 #[I_ on,I_ S.zs.length] W (rV (I_ k) W)):=fun W=>by have:=VH on S.zs.length W ro o_ o_;rwa[V]at this
   have FD:=bL (ad5 N k S x c on a b s G H F ne O T Q R J f.drew (r.o.below (Below.drew (Br_ f.heap.size f))) K hN ⟨hn.1,o_⟩ (by have:=hks 3;omega));have o5:=bQ 5 z.o rfl;have o6:=bQ 6 z.o rfl;have o7:=bQ 7 z.o rfl;have S1:f.drew.cell? (a_ S.gw 1)=some (s_ v S.zs.length cz)/\f.drew.cell? (a_ i 0)=some (I_ c)/\f.drew.cell? (a_ i 1)=some (I_ on)/\f.drew.cell? (a_ i 2)=some (I_ a)/\f.drew.cell? (a_ i 3)=some (I_ b)/\f.drew.cell? (a_ i 4)=some (.string s)/\f.drew.cell? (a_ i 5)=some (.slice G ne O)/\f.drew.cell? (a_ i 6)=some (.slice H T Q)/\f.drew.cell? (a_ i 7)=some (.slice F R J)/\f.drew.cell? (a_ v (k*2))=some (p_ x.g)/\f.drew.cell? (a_ v (k*2+1))=some (p_ x.gs):=⟨Z,o0,X,o2,o3,o4,o5,o6,o7,bV SC (vL K).1,bV SC (vL K).2⟩;have IC:=jJ k;have ik2:(k:Int)<S.zs.length:=o_;have W:Hid (∀d E2 Ab D t L M,Kept S.gd f.drew d->WI (N+s.size) { S with zs:=S.zs.set k { x with E:=E2,E':=Ab,C:=D },ks:=more S.ks 3 t,n:=S.n+1,L:=L,M:=M } d->d.cell? (a_ S.gw 1)=some (s_ v S.zs.length cz)/\d.cell? (a_ i 0)=some (I_ c)/\d.cell? (a_ i 1)=some (I_ on)/\d.cell? (a_ i 2)=some (I_ a)/\d.cell? (a_ i 3)=some (I_ b)/\d.cell? (a_ i 4)=some (.string s)/\d.cell? (a_ i 5)=some (.slice G ne O)/\d.cell? (a_ i 6)=some (.slice H T Q)/\d.cell? (a_ i 7)=some (.slice F R J)/\d.cell? (a_ v (k*2))=some (p_ x.g)/\d.cell? (a_ v (k*2+1))=some (p_ x.gs)):=fun d E2 Ab D t L M l g=>by have A:=l.op i _ z.o;have sc:d.ownsRow S.gd 63 2 S.QF (S.zs.set k { x with E:=E2,E':=Ab,C:=D }).length (xw (S.zs.set k { x with E:=E2,E':=Ab,C:=D })):=g.q.sc;have cw:d.cell? (a_ S.gw 1)=some S.QF:=bN (j:=1) g.q.w rfl;rw[ez]at sc cw;rw[Ot S.zs k x { x with E:=E2,E':=Ab,C:=D } K rfl rfl,le_]at sc;exact⟨cw,bN (j:=0) A rfl,bN (j:=1) A rfl,bN (j:=2) A rfl,bN (j:=3) A rfl,bN (j:=4) A rfl,bN (j:=5) A rfl,bN (j:=6) A rfl,bN (j:=7) A rfl,bV sc (vL K).1,bV sc (vL K).2⟩
   clear K V;have q34:Hid ((c == 3 || c == 4)=true):=by show _=_;simp;omega
   rcases k34 with k3 | k4;focus
    subst k3;go_wp2_with fail;clear I Z o0 X o2 o3 o4 o5 o6 o7;go_region_held3 (fun d=>d.cell? (a_ S.gw 1)=some (s_ v S.zs.length cz)/\d.cell? (a_ i 0)=some (I_ 3)/\d.cell? (a_ i 1)=some (I_ on)/\d.cell? (a_ i 2)=some (I_ a)/\d.cell? (a_ i 3)=some (I_ b)/\d.cell? (a_ i 4)=some (.string s)/\d.cell? (a_ i 5)=some (.slice G ne O)/\d.cell? (a_ i 6)=some (.slice H T Q)/\d.cell? (a_ i 7)=some (.slice F R J)/\d.cell? (a_ v (k*2))=some (p_ x.g)/\d.cell? (a_ v (k*2+1))=some (p_ x.gs)) (first | assumption | exact W.o _ _ _ _ _ _ _ l hWI) (first | (go_at_call 11;refine (u.o _).mono ?_;rintro e d ⟨rfl,rfl⟩) | (go_at_call 12;refine FD.o.mono ?_;rintro e d ⟨rfl,l,E2,Ab,D,t,aoa,K,g,hWI⟩))
   rotate_left;focus
    subst k4;go_wp2_with fail;clear I Z o0 X o2 o3 o4 o5 o6 o7;go_region_held3 (fun d=>d.cell? (a_ S.gw 1)=some (s_ v S.zs.length cz)/\d.cell? (a_ i 0)=some (I_ 4)/\d.cell? (a_ i 1)=some (I_ on)/\d.cell? (a_ i 2)=some (I_ a)/\d.cell? (a_ i 3)=some (I_ b)/\d.cell? (a_ i 4)=some (.string s)/\d.cell? (a_ i 5)=some (.slice G ne O)/\d.cell? (a_ i 6)=some (.slice H T Q)/\d.cell? (a_ i 7)=some (.slice F R J)/\d.cell? (a_ v (k*2))=some (p_ x.g)/\d.cell? (a_ v (k*2+1))=some (p_ x.gs)) (first | assumption | exact W.o _ _ _ _ _ _ _ l hWI) (first | (go_at_call 11;refine (u.o _).mono ?_;rintro e d ⟨rfl,rfl⟩) | (go_at_call 12;refine FD.o.mono ?_;rintro e d ⟨rfl,l,E2,Ab,D,t,aoa,K,g,hWI⟩))
   all_goals
    have W1:=bL hWI;have HC:=bL g;have A:Hid (Below S.gd f d):=(Br_ S.gd f).drew.trans l.lo;clear hWI l g W FD;go_wp2;go_ret;exact⟨rfl,LO.o.trans A.o,_,ahl hn.1 HC.o,W1.o⟩
  .have g:=nI (0:Int) (S.zs.length:Int);rcases k34 with k3 | k4
   .subst k3;go_wp2;go_ret;exact q.o _ (Br_ _ _) r.o
   .subst k4;go_wp2;go_ret;exact q.o _ (Br_ _ _) r.o
 by_cases k2:c=2
 .subst k2;by_cases hz:0<S.kU.length
  .have hz1:=oL (0:Int) (S.kU.length:Int);obtain⟨k,V,U⟩:∃k:Nat,QV on S.kU.length=(k:Int)/\k<S.kU.length:=by have:=Ma on hz;exact⟨(QV on S.kU.length).toNat,o_,o_⟩
   obtain⟨t,D⟩:=rG S.kU k U;obtain⟨v,ci',e,-,-⟩:=dL r.o.q.im hz;rw[Y]at e;cases e;have K:=r.o.q.im;rw[Y]at K;have u:Hid (∀W,C_ 11 #[I_ on,I_ S.kU.length] W (rV (I_ k) W)):=fun W=>by have:=VH on S.kU.length W ro o_ o_;rwa[V]at this
   have BG:=bL (Jg N S t a b f.drew (r.o.below (Below.drew (Br_ f.heap.size f))) (.inl (mg_ D)) ra rb hzs);have S1:f.drew.cell? (a_ S.gw 0)=some (s_ v S.kU.length ci)/\f.drew.cell? (a_ i 1)=some (I_ on)/\f.drew.cell? (a_ i 2)=some (I_ a)/\f.drew.cell? (a_ i 3)=some (I_ b)/\f.drew.cell? (a_ v (k*2))=some (.string t.s)/\f.drew.cell? (a_ v (k*2+1))=some (.pointer (t.g.map fun g=>(a_ g 0))):=⟨I,X,o2,o3,bV K (vV D).1,bV K (vV D).2⟩;have IC:=jJ k;have ik2:(k:Int)<S.kU.length:=o_;have W:Hid (∀d,Kept S.gd f.drew d->((¬rX t.s a b/\WI N S d)\/(rX t.s a b/\∃x v2,WI N { S with zs:=S.zs++[x],QF:=v2 } d))->d.cell? (a_ S.gw 0)=some (s_ v S.kU.length ci)/\d.cell? (a_ i 1)=some (I_ on)/\d.cell? (a_ i 2)=some (I_ a)/\d.cell? (a_ i 3)=some (I_ b)/\d.cell? (a_ v (k*2))=some (.string t.s)/\d.cell? (a_ v (k*2+1))=some (.pointer (t.g.map fun g=>(a_ g 0)))):=fun d l y=>by
    have A:=l.op i _ z.o;rcases y with ⟨_,g⟩ | ⟨_,x,v2,g⟩;all_goals
     have sm:d.ownsRow S.gd 56 2 S.Bj S.kU.length (wT S.kU):=g.q.im;have cw:d.cell? (a_ S.gw 0)=some S.Bj:=bN (j:=0) g.q.w rfl;rw[Y]at sm cw;exact⟨cw,bN (j:=1) A rfl,bN (j:=2) A rfl,bN (j:=3) A rfl,bV sm (vV D).1,bV sm (vV D).2⟩
   clear D V;go_wp2_with fail;clear I Z o0 X o2 o3 o4;go_region_held3 (fun d=>d.cell? (a_ S.gw 0)=some (s_ v S.kU.length ci)/\d.cell? (a_ i 1)=some (I_ on)/\d.cell? (a_ i 2)=some (I_ a)/\d.cell? (a_ i 3)=some (I_ b)/\d.cell? (a_ v (k*2))=some (.string t.s)/\d.cell? (a_ v (k*2+1))=some (.pointer (t.g.map fun g=>(a_ g 0)))) (first | assumption | exact W.o _ l y) (first | (go_at_call 11;refine (u.o _).mono ?_;rintro e d ⟨rfl,rfl⟩) | (go_at_call 9;refine BG.o.mono ?_;rintro e d ⟨rfl,l,y⟩));have D:=bL y;have A:Hid (Below S.gd f d):=(Br_ S.gd f).drew.trans l.lo;clear y l W BG;go_wp2;go_ret;rcases D.o with ⟨_,g⟩ | ⟨_,x,v2,g⟩
   .exact q.o _ A.o g
   .exact⟨rfl,LO.o.trans A.o,{ S with zs:=S.zs++[x],QF:=v2 },⟨⟨rfl,rfl⟩,by show S.kU.length<=_;omega,by show (S.zs++[x]).length<=_;simp,fun _=>by show (S.ks _).length<=_;omega,⟨hn.1,by show S.n<=_;omega⟩,fun _ _ h=>.inl h,fun h=>h⟩,g.grow o_⟩
  .have g:=nI (0:Int) (S.kU.length:Int);go_wp2;go_ret;exact q.o _ (Br_ _ _) r.o
 by_cases k7:c=7
 .subst k7;have e:=bL (Oa s f HM.o);go_wp2_with fail;clear I Z o0 X o2 o3 o4;refine e.o.mono ?_;clear e;rintro e d ⟨rfl,B⟩;have W1:=bL (r.o.below B);have A:Hid (Below S.gd f d):=B.mono (ll_ (bP r.o.d));clear B;go_wp2;go_ret;exact q.o _ A.o W1.o
 by_cases k5:c=5
 .subst k5;obtain⟨p,e,g,u,v,x,A⟩:=HP.o;have k:=bL (PW N S _ _ _ p f r.o him e g u v x A);have o5:=bQ 5 z.o rfl;have o6:=bQ 6 z.o rfl;have o7:=bQ 7 z.o rfl;clear e g u v x A;go_wp2_with fail;clear I Z o0 X o2 o3 o4 o5 o6 o7;refine k.o.mono ?_;clear k;rintro e d ⟨rfl,l,y⟩;have D:=bL y;have A:Hid (Below S.gd f d):=l.lo;clear y l;go_wp2;go_ret;rcases D.o with g | ⟨pc,v2,g⟩
  .exact q.o _ A.o g
  .exact⟨rfl,LO.o.trans A.o,{ S with kU:=S.kU++[pc],Bj:=v2 },⟨⟨rfl,rfl⟩,by show (S.kU++[pc]).length<=_;simp,by show S.zs.length<=_;omega,fun _=>by show (S.ks _).length<=_;omega,⟨hn.1,by show S.n<=_;omega⟩,fun _ _ h=>.inl h,fun h=>h⟩,g.grow o_⟩
 by_cases k1:c=1
 .subst k1;obtain⟨ip,hip,hp0,hp1,hp2⟩:=ip_ JR;go_wp2_with fail;have dl:=bP r.o.d;have wl:=bP r.o.q.w;have ol:=bP z.o;have ne1:S.gw≠f.heap.size:=o_;have uC:f.heap.size≠S.gw:=o_;have S1:f.drew.cell? (a_ i 4)=some (.string s):=o4;have D:=bL (r.o.below (((Br_ f.heap.size f).alloc dF (c_ #[.string s,.pointer none] 56)).drew));have v:=D.o.q.im;rw[Y]at v;have U:=bL (bO z.o (((Br_ f.heap.size f).alloc dF (c_ #[.string s,.pointer none] 56)).drew) (bP z.o));have S2:(f.alloc (c_ #[.string s,.pointer none] 56)).drew.cell? (a_ i 4)=some (.string s):=bN (j:=4) U.o rfl;refine wd_ (S:=fun d=>d.cell? (a_ i 4)=some (.string s)) k_ S1 (fun dK=>?_);refine cB 0 ?_;refine cB 1 ?_;refine cB 2 ?_;refine cB 3 ?_;refine cB 5 ?_;refine cB 6 ?_;refine cB 7 ?_;refine yz 4 8 (fun K u=>?_) (fun K u=>?_);focus
   go_simp;refine u.out _ _ dK (fun gG=>?_);clear u K
   try simp only[Act.put,sb_]
   refine fF 8 (fun K u=>?_)
  rotate_left;focus
   have c0':=bN (j:=0) D.o.q.w rfl;rw[Y]at c0';go_simp;refine u.out _ _ S2 (fun gG=>?_);clear u K
   try simp only[Act.put,sb_]
   refine fF 4 (fun K u=>?_)
  all_goals
   go_simp;refine u.out _ _ S2 (fun lT=>?_);clear u K
   try simp only[Act.put,sb_]
   refine fF 9 (fun K u=>?_);refine sa_ _ r_ _ _ _ r_ S.gd 56 ip _ 2 24 underlying34 hip hp0 hp1 hp2 rfl o_ (.slice ai S.kU.length ci) S.kU.length (wT S.kU) r_ v (a_ f.heap.size 0) 1 1 [.string s,.pointer none] r_ r_ (World.news_of_block (cs:=#[.string s,.pointer none]) (t:=56) (fr:=(0,0)) (hn_ _ _)) (by simp[Value.oneCell']) o_ (by unfold maxLen;omega) o_ (by simp;omega) (f.heap.size+1) i_ ?_;intro g2 eZ w2 di W e g;clear e g;have kK:=fq v D.o.q.w d_ W;have x:=fq v U.o d_ W;have Te:=cK kK 0 (s_ g2 (S.kU.length+1) eZ);have ob3:=bU x (gD x kK d_) 0 (s_ g2 (S.kU.length+1) eZ);refine u.out _ _ (bN (j:=4) x rfl) (fun kT=>?_);have k5:=bQ 0 kK rfl;have Oh:=bM kK 0;clear u K
   try simp only[Act.put,sb_]
   refine cB 10 ?_;refine cB 11 ?_;refine fF 12 (fun K u=>?_);go_simp;refine u.out _ _ (bN (j:=4) ob3 rfl) (fun nX=>?_);clear u K;refine wpAnyH_done k_ ?_ _;have H3:=bL (D.o.image (pc:=⟨s,[],none⟩) ⟨by show s.size<=_;omega,fun g e=>by cases e⟩ (by rw[Y];exact W) di);have A:Hid (Below S.gd f (w2.setCell (a_ S.gw 0) (s_ g2 (S.kU.length+1) eZ))):=((((Br_ S.gd f).alloc o_ (c_ #[.string s,.pointer none] 56)).drew).grown W (by simp;omega) (fun k V=>(ol_ v k V).1)).setCell r.o.up.1 _;clear kT nX kK Te x ob3 k5 Oh di W D;generalize w2.setCell (a_ S.gw 0) (s_ g2 (S.kU.length+1) eZ)=e at *;go_wp2;go_ret;exact⟨rfl,LO.o.trans A.o,{ S with kU:=S.kU++[⟨s,[],none⟩],Bj:=s_ g2 (S.kU.length+1) eZ },⟨⟨rfl,rfl⟩,by show (S.kU++[_]).length<=_;simp,by show S.zs.length<=_;omega,fun _=>by show (S.ks _).length<=_;omega,⟨hn.1,by show S.n<=_;omega⟩,fun _ _ h=>.inl h,fun h=>h⟩,H3.o.grow o_⟩
 by_cases k6:c=6
 .subst k6;have x:=bL (zD N S s f r.o o_ ⟨hn.1,o_⟩ (fun j=>by have:=hks j;omega));go_wp2_with fail;clear I Z o0 X o2 o3 o4;refine x.o.mono ?_;clear x;rintro e w1 ⟨rfl,g,x0,x1,x2,L1,M1,u,k⟩;have W1:=bL k;have OP1:=bL g;have C1:=bL u;have KO1:=bL (g.op i _ z.o);have I:w1.cell? (a_ S.gw 0)=some S.Bj:=bN (j:=0) k.q.w rfl;rw[Y]at I;have X:=bQ 1 KO1.o rfl;clear g u k;by_cases hz:0<S.kU.length
  .have hz1:=oL (0:Int) (S.kU.length:Int);obtain⟨k,V,U⟩:∃k:Nat,QV on S.kU.length=(k:Int)/\k<S.kU.length:=by have:=Ma on hz;exact⟨(QV on S.kU.length).toNat,o_,o_⟩
   obtain⟨t,D⟩:=rG S.kU k U;have K:w1.ownsRow S.gd 56 2 S.Bj S.kU.length (wT S.kU):=W1.o.q.im;obtain⟨v,ci',e,-,-⟩:=dL K hz;rw[Y]at e;cases e;rw[Y]at K;have u:Hid (∀W,C_ 11 #[I_ on,I_ S.kU.length] W (rV (I_ k) W)):=fun W=>by have:=VH on S.kU.length W ro o_ o_;rwa[V]at this
   have x:=bL (zD N _ t.s w1.drew (W1.o.below (Br_ _ _).drew) (W1.o.q.pic t (mg_ D)).sz ⟨by show 0<=S.n+1+1+1;omega,by show S.n+1+1+1<=_;omega⟩ (fun j=>by show (more (more (more S.ks 0 x0) 1 x1) 2 x2 j).length<=_;rw[zW];have:=hks j;split <;> omega));have S1:w1.drew.cell? (a_ S.gw 0)=some (s_ v S.kU.length ci)/\w1.drew.cell? (a_ i 1)=some (I_ on)/\w1.drew.cell? (a_ v (k*2))=some (.string t.s):=⟨I,X,bV K (vV D).1⟩;have IC:=jJ k;have ik2:(k:Int)<S.kU.length:=o_;have W:Hid (∀d ks n L M,Kept S.gd w1.drew d->WI N { S with ks:=ks,n:=n,L:=L,M:=M } d->d.cell? (a_ S.gw 0)=some (s_ v S.kU.length ci)/\d.cell? (a_ i 1)=some (I_ on)/\d.cell? (a_ v (k*2))=some (.string t.s)):=fun d ks n L M l g=>by have A:=l.op i _ KO1.o;have sm:d.ownsRow S.gd 56 2 S.Bj S.kU.length (wT S.kU):=g.q.im;have cw:d.cell? (a_ S.gw 0)=some S.Bj:=bN (j:=0) g.q.w rfl;rw[Y]at sm cw;exact⟨cw,bN (j:=1) A rfl,bV sm (vV D).1⟩
   clear D V K;go_wp2_with fail;clear I X;go_region_held3 (fun d=>d.cell? (a_ S.gw 0)=some (s_ v S.kU.length ci)/\d.cell? (a_ i 1)=some (I_ on)/\d.cell? (a_ v (k*2))=some (.string t.s)) (first | assumption | exact W.o _ _ _ _ _ l hW2) (first | (go_at_call 11;refine (u.o _).mono ?_;rintro e d ⟨rfl,rfl⟩) | (go_at_call 14;refine x.o.mono ?_;rintro e d ⟨rfl,l,D,y1,y2,L2,M2,g,hW2⟩));have W2:=bL hW2;have A:Hid (Below S.gd f d):=OP1.o.lo.trans ((Br_ S.gd w1).drew.trans l.lo);have C2:=bL g;clear hW2 l g W x;go_wp2;go_ret;exact⟨rfl,LO.o.trans A.o,{ S with ks:=more (more (more (more (more (more S.ks 0 x0) 1 x1) 2 x2) 0 D) 1 y1) 2 y2,n:=S.n+1+1+1+1+1+1,L:=L2,M:=M2 },afX ⟨rfl,rfl,rfl,rfl⟩ (fun j=>by show (more (more (more (more (more (more S.ks 0 x0) 1 x1) 2 x2) 0 D) 1 y1) 2 y2 j).length<=_;rw[zW,zW];split <;> omega) ⟨by show 0<=S.n+1+1+1+1+1+1;omega,by show S.n+1+1+1+1+1+1<=_;omega⟩ (fun j x K=>(pU K C2.o).elim (fun h=>pU h C1.o) .inr) ⟨2,fun j x=>by show (more (more (more (more (more (more S.ks 0 x0) 1 x1) 2 x2) 0 D) 1 y1) 2 y2 j).length=_;rw[zW,zW,if_neg x]⟩,W2.o.grow o_⟩
  .have g:=nI (0:Int) (S.kU.length:Int);go_wp2;go_ret;exact⟨rfl,LO.o.trans OP1.o.lo,{ S with ks:=more (more (more S.ks 0 x0) 1 x1) 2 x2,n:=S.n+1+1+1,L:=L1,M:=M1 },afX ⟨rfl,rfl,rfl,rfl⟩ (fun j=>by show (more (more (more S.ks 0 x0) 1 x1) 2 x2 j).length<=_;rw[zW];split <;> omega) ⟨by show 0<=S.n+1+1+1;omega,by show S.n+1+1+1<=_;omega⟩ (fun j x K=>pU K C1.o) ⟨1,fun j x=>by show (more (more (more S.ks 0 x0) 1 x1) 2 x2 j).length=_;rw[zW,if_neg x]⟩,W1.o.grow o_⟩
 have u:c=8:=o_;subst u;have k:=bL (fun W g=>Iu N S s W g him HM.o);go_wp2_with fail;clear I Z o0 X o2 o3 o4;refine (k.o _ r.o).mono ?_;rintro e d ⟨rfl,l,y⟩;have D:=bL y;have A:Hid (Below S.gd f d):=l.lo;clear y l k;go_wp2;go_ret;rcases D.o with g | ⟨pc,v2,g⟩
 .exact q.o _ A.o g
 .exact⟨rfl,LO.o.trans A.o,{ S with kU:=S.kU++[pc],Bj:=v2 },⟨⟨rfl,rfl⟩,by show (S.kU++[pc]).length<=_;simp,by show S.zs.length<=_;omega,fun _=>by show (S.ks _).length<=_;omega,⟨hn.1,by show S.n<=_;omega⟩,fun _ _ h=>.inl h,fun h=>h⟩,g.grow o_⟩
end Go.Proofs.YtmccnmgaoppogabGreat
