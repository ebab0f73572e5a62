import Derived.Test.YtmccnmgaoppogabGreatuKap
namespace Go.Proofs.YtmccnmgaoppogabGreat
open Pu
set_option linter.all false
open Go.Proofs.Tryz Tryz
set_option maxRecDepth 100000
set_option maxHeartbeats 8000000
open Go.RowKit
variable {W:W_} {B g:Nat} {s:Y_} {all:List aC}
namespace Pu
def nN(f:aC->Bool)(all:List aC)(i:Nat):Prop:=(∃x,all[i]?=some x/\f x=true)/\∀j x,j<i->all[j]?=some x->f x=false
def zq(f:aC->Bool)(all:List aC):Prop:=∀x∈all,f x=false
def Fy(x:aC):Bool:=x.down
def MW(x:aC):Bool:=x.re.iP
end Pu
def DV(B:Nat)(W:W_)(v:V_)(ps:List Pu.aJ):Prop:=∃a,W.ownsRow B 248 257 v a.length (VI a)/\a.map (·.1)=ps/\∀q∈a,fe W q.2 q.1.next
abbrev zB:V_:=.agg #[I_ 0,n_,n_]
def BH(s:Y_)(w w':W_)(v:V_)(a no:Int):Prop:=
 (300<s.size/\v=zB/\a=9/\no=0)\/
 (s.size<=300/\∃k,xF s 0 0 k/\v=zB/\a=10/\no=k)\/
 (s.size<=300/\∃all,uk s 0 [] all/\
  ((∃i,nN Fy all i/\v=zB/\a=11/\no=i)\/
   (zq Fy all/\∃i,nN MW all i/\v=zB/\a=12/\no=i)\/
   (zq Fy all/\zq MW all/\∃b f d c h e,v=.agg #[I_ (mH (dx all).1),.slice b f d,.slice c h e]/\a=0/\no=0/\Lm w.heap.size w' (.slice b f d) (dx all).1/\DV w.heap.size w' (.slice c h e) (dx all).2)))
def adJ(s:Y_)(w:W_)(e:Ending)(w':W_):Prop:=∃v a no,e=.returned (.tuple #[v,I_ a,I_ no])/\B_ w w'/\BH s w w' v a no
theorem CG{a b c:V_}(h:dh W g 122 [a,b,c]):(loadVar 122 (a_ g 0)).run prog W=.ok (.agg #[a,b,c]) W:=
 run_loadVar_mid W g 0 122 [a,b,c] _ (eQ h) underlying122 rfl k_
theorem Lm.mono{a:Nat}{v:V_}{ls:List aD}(h:Lm B W v ls)(e:a<=B):Lm a W v ls:=by obtain⟨f,b,c,d⟩:=h;exact⟨f,dH b e,c,d⟩
theorem Lm.grown{t:Nat}{W':W_}{v:V_}{ls:List aD}{xs:List V_}(h:Lm B W v ls)(c:dh W g t xs)(f:t≠129)(e:t≠3)(d:W.grownBy W' (some g)):Lm B W' v ls:=by obtain⟨k,i,j,b⟩:=h;exact⟨k,dG i c f d,j,fun q a=>⟨(b q a).1,(b q a).2.1,dM (b q a).2.2.1 c e d,dM (b q a).2.2.2 c e d⟩⟩
theorem Rd.plm{i:Nat}{ps:List Pu.aJ}{d:Bool}{b:V_}{a:List (Pu.aJ × V_)}(h:Rd B g s i ps d b a W):DV B W b ps:=⟨a,h.own,h.ps,h.nx⟩
theorem DV.grown{t:Nat}{W':W_}{v:V_}{ps:List Pu.aJ}{xs:List V_}(h:DV B W v ps)(a:dh W g t xs)(c:t≠248)(d:t≠3)(b:W.grownBy W' (some g)):DV B W' v ps:=by obtain⟨k,f,i,j⟩:=h;exact⟨k,dG f a c b,i,fun q e=>dM (j q e) a d b⟩
theorem DV.below{B:Nat}{W W':W_}{v:V_}{ps:List Pu.aJ}(h:DV B W v ps)(a:B_ W W'):DV B W' v ps:=by obtain⟨f,c,d,e⟩:=h;exact⟨f,bW c a dF,d,fun q b=>(e q b).below a⟩
structure TX(s:Y_)(w:W_)(gR g:Nat)(all:List aC)(v:V_)(W:W_):Prop where
 be:B_ w W
 r:dh W gR 122 [I_ 0,n_,n_]
 lm:Lm w.heap.size W v (dx all).1
 rd:∃d,I8 w.heap.size g s s.size (dx all).2 d W
 ap:w.heap.size<=gR
section
variable {s:Y_} {w:W_} {gR g:Nat} {all:List aC} {v:V_} {W W':W_}
theorem TX.below(h:TX s w gR g all v W)(a:B_ W W'):TX s w gR g all v W':=by obtain⟨d,b⟩:=h.rd;exact⟨ja h.be a,bO h.r a (bP h.r),h.lm.below a,⟨d,b.below a⟩,h.ap⟩
theorem ui{x y z:V_}(be:B_ w W)(r:dh W gR 122 [x,y,z])(d:w.heap.size<=gR)(a b c:V_) :
  (loadVar 122 (a_ gR 0)).run prog (kG W gR a b c)=.ok (.agg #[a,b,c]) (kG W gR a b c)/\B_ w (kG W gR a b c):=
 ⟨CG (jE r _ _ _),be.grown (jg W gR a b c) be.size (fun k e=>by cases e;exact d)⟩
end
namespace Pu
theorem nN.skip{f:aC->Bool}{k:Nat}{x:aC}(h:∀j y,j<k->all[j]?=some y->f y=false)(c:all[k]?=some x)(b:f x=false):∀j y,j<k+1->all[j]?=some y->f y=false:=by
 intro j y d a;by_cases e:j=k
 .subst e;rw[c]at a;cases a;exact b
 .exact h j y o_ a
theorem zq.of{f:aC->Bool}(h:∀j y,j<all.length->all[j]?=some y->f y=false):zq f all:=by intro x b;obtain⟨j,a⟩:=gf_ b;exact h j x (ge_.1 a).1 a
theorem qP(all:List aC){k:Nat}{x:aC}(h:all[k]?=some x):∃a,(dx all).1[k]?=some (x.lp a)/\a.empty=x.re.iP:=by obtain⟨a,b,_,_,_,c⟩:=(jw all).get k x h;exact⟨a,b,c⟩
def Np(x:aC):Prop:=0<=x.mode/\x.mode<=3/\0<=x.md/\x.md<=3/\0<=x.emit/\x.emit<=1/\0<=x.act/\x.act<=3/\(x.act=1\/x.act=2\/x.md=0)
theorem I6.bd{i k:Nat}{x:aC}(h:I6 s i k x):Np x:=by
 cases h with
 | mk d _ _ _ c=>
  unfold Np fP at *;cases c with
  | plain a _ _ _=>unfold oF at a;simp only;refine⟨o_,o_,o_,o_,o_,o_,o_,o_,?_⟩;simp
  | pop a _=>unfold oF at a;simp only;refine⟨o_,o_,o_,o_,o_,o_,o_,o_,?_⟩;simp
  | bH a _ b=>unfold oF at a;unfold fP at b;simp only;refine⟨o_,o_,o_,o_,o_,o_,o_,o_,?_⟩;simp
  | push a _ b=>unfold oF at a;unfold fP at b;simp only;refine⟨o_,o_,o_,o_,o_,o_,o_,o_,?_⟩;simp
theorem uk.bd{s:Y_}{i:Nat}{ls all:List aC}(h:uk s i ls all):(∀x∈ls,Np x)->∀x∈all,Np x:=by
 induction h with
 | done a=>?_
 | more a _ _ _ c=>?_
 intro k x b;rotate_left;focus
  intro k;refine c (fun x b=>?_)
 all_goals
  rcases ma_.1 b with h | h
  .exact k x h
  .simp at h;subst h;exact a.bd
theorem uk.count{i:Nat}{ls:List aC}(h:uk s i ls all):ls.length<16->1<=all.length/\all.length<=16:=by
 induction h with
 | done _=>intro k;simp;omega
 | more _ _ b _ a=>intro _;exact a (by simp;omega)
theorem uk.Ao(h:uk s 0 [] all):(∀x∈all,Np x)/\1<=all.length/\all.length<=16:=⟨h.bd (fun x a=>by simp at a),h.count d_⟩
theorem aal(h:∀x∈all,Np x):∀x∈(dx all).1,0<=x.mode/\x.mode<=1000/\0<=x.md/\x.md<=1000:=by
 intro y e;obtain⟨k,b⟩:=gf_ e;have c:k<all.length:=by rw[<-(jw all).n];exact (ge_.1 b).1
 have d:=gg_ c;obtain⟨f,a,_⟩:=qP all d;rw[b]at a;cases a;have:=h _ (List.getElem_mem c);unfold Np at this;simp only[aC.lp];omega
end Pu
theorem IW(s:Y_)(w:W_):Calls prog 67 #[.string s] w (adJ s w):=by
 have TB:=bL (hn_ w (c_ #[I_ 0,n_,n_] 122));have Y:Hid (B_ w (w.alloc (c_ #[I_ 0,n_,n_] 122))):=(Br_ w.heap.size w).alloc dF _;go_in;by_cases hs:300<s.size
 .have T:=oL (300:Int) (s.size:Int);have u:=CG TB.o;have y:Hid (BH s w (w.alloc (c_ #[I_ 0,n_,n_] 122)) zB 9 0):=.inl ⟨hs,rfl,rfl,rfl⟩;go_wp2;exact br_ (by simp[results,results67,asAddr,Result.andThen,u]) rfl ⟨_,_,_,rfl,Y.o,y.o⟩
 .have T:=nI (300:Int) (s.size:Int);have b1:B_ w ((w.alloc (c_ #[I_ 0,n_,n_] 122)).alloc (c_ #[.string s,I_ 0,n_,.bool false] 199)):=Y.o.alloc i_ _;have E:Hid (dh ((w.alloc (c_ #[I_ 0,n_,n_] 122)).alloc (c_ #[.string s,I_ 0,n_,.bool false] 199)) w.heap.size 122 [I_ 0,n_,n_]):=cO TB.o _;have L:Hid (I8 w.heap.size (w.heap.size+1) s 0 [] false ((w.alloc (c_ #[I_ 0,n_,n_] 122)).alloc (c_ #[.string s,I_ 0,n_,.bool false] 199))):=by have h2:=hn_ (w.alloc (c_ #[I_ 0,n_,n_] 122)) (c_ #[.string s,I_ 0,n_,.bool false] 199);rw[wa_]at h2;exact⟨n_,[],h2,o_,iR _ _ _ _,rfl,fun q a=>by simp at a⟩
  have Q:=bL b1;clear b1 Y TB;go_wp2_with fail;generalize (w.alloc (c_ #[I_ 0,n_,n_] 122)).alloc (c_ #[.string s,I_ 0,n_,.bool false] 199)=W1 at *;generalize w.heap.size+1=g at *;refine (XF w.heap.size g s false W1 L.o o_).mono ?_;rintro e w2 (⟨all,v,d,hL,rfl,lm,rk,X⟩ | ⟨k,ps',d',hF,rfl,rk,X⟩)
  .have bd:=hL.Ao;have q:Hid ((dx all).1.length=all.length):=Jd all;obtain⟨l,p,rfl,hv1,hv2⟩:=lm.len;rw[q.o]at lm hv1;rw[q.o];have a:Hid (TX s w w.heap.size g all (.slice l all.length p) w2):=⟨Q.o.trans rk.lo,rk.fB E.o d_ d_,lm.mono Q.o.size,⟨d,X⟩,dF⟩;have Z:=bL hL;have O:s.size<=300:=o_;clear lm rk X hL Q E L;go_wp2_with fail;go_loopg [8,9,29] all.length (fun gk _ _ i n=>∃k:Nat,k<=all.length/\gk=all.length-k/\i=I_ k/\TX s w w.heap.size g all (.slice l all.length p) n/\∀j y,j<k->all[j]?=some y->Fy y=false);exact⟨0,zl_ _,rfl,rfl,a.o,fun j y i=>o_⟩;clear a;obtain⟨k,kl,rfl,rfl,i,a⟩:=hrel;have c:=bL i;have b:=bL a;clear i a;by_cases N:k<all.length
   .have T:=oL k all.length;obtain⟨x,u⟩:=rG all k N;obtain⟨i,a,r⟩:=qP all u;obtain⟨gv,cap,n,H,F,t,I,G,U,y,_,_⟩:=c.o.lm.get a;rw[q.o]at U;cases U;have wi:=kZ k;have OM:=jJ k;have IC:(k:Int)<all.length:=o_;have D:=bL (c.o.below ((Br_ wr.heap.size wr).alloc dF (c_ (lC (x.lp i,.slice n H F,.slice t I G)).toArray 129)));have z:Hid (dh (wr.alloc (c_ (lC (x.lp i,.slice n H F,.slice t I G)).toArray 129)) wr.heap.size 129 (lC (x.lp i,.slice n H F,.slice t I G))):=hn_ _ _;have K:=bL y;have A:Hid (x.down=Fy x):=rfl;have C:=bL u;clear y u a r c;simp only[lC,aC.lp]at D z K;go_upto_region 10 with (refine wl_ rfl 129 (.tmp 32) rfl gv (k*8) rfl _ _ K.o underlying129 rfl sN ?_);generalize wr.alloc (c_ #[I_ x.mode,I_ x.emit,I_ x.act,I_ x.md,.bool i.empty,.slice n H F,.slice t I G,.bool x.down] 129)=W2 at *;have V:=bQ 7 z.o rfl;cases hd:x.down with
    | true=>
     rw[hd]at V;have y:Hid (∀W,BH s w W zB 11 k):=fun W=>.inr (.inr ⟨O,all,Z.o,.inl ⟨k,⟨⟨x,C.o,by rw[<-A.o];exact hd⟩,b.o⟩,rfl,rfl,rfl⟩⟩);have a:=D;clear D A b C z;obtain⟨u,r⟩:=ui a.o.be a.o.r a.o.ap (I_ 0) n_ n_;have J:=bL r;have z0:=bQ 0 a.o.r rfl;have z1:=bQ 1 a.o.r rfl;have z2:=bQ 2 a.o.r rfl;have f0:=bM a.o.r 0;have f1:=bM a.o.r 1;have f2:=bM a.o.r 2;clear r;go_wp2;exact br_ (by simp[results,results67,asAddr,Result.andThen,u]) rfl ⟨_,_,_,rfl,J.o,y.o _⟩
    | false=>
     rw[hd]at V;have r:=bL (nN.skip b.o C.o (by rw[<-A.o];exact hd));clear A b C z;go_wp2;go_roundg (all.length-(k+1));exact⟨k+1,o_,rfl,by go_num,D.o,r.o⟩;omega
   .have T:=nI k all.length;have e:k=all.length:=o_;have U:=bL (zq.of (f:=Fy) (by rw[<-e];exact b.o));clear e b;have a:=c;have R:=U;clear c U;go_wp2_with fail;go_loopg [10,11,41] all.length (fun gk _ _ i n=>∃k:Nat,k<=all.length/\gk=all.length-k/\i=I_ k/\TX s w w.heap.size g all (.slice l all.length p) n/\∀j y,j<k->all[j]?=some y->MW y=false);exact⟨0,zl_ _,rfl,rfl,a.o,fun j y i=>o_⟩;clear a;obtain⟨k,kl,rfl,rfl,i,a⟩:=hrel;have c:=bL i;have b:=bL a;clear i a;by_cases N:k<all.length
    .have T:=oL k all.length;obtain⟨x,u⟩:=rG all k N;obtain⟨i,a,r⟩:=qP all u;obtain⟨gv,cap,n,H,F,t,I,G,U,y,_,_⟩:=c.o.lm.get a;rw[q.o]at U;cases U;have wi:=kZ k;have OM:=jJ k;have IC:(k:Int)<all.length:=o_;have D:=bL (c.o.below ((Br_ wr.heap.size wr).alloc dF (c_ (lC (x.lp i,.slice n H F,.slice t I G)).toArray 129)));have z:Hid (dh (wr.alloc (c_ (lC (x.lp i,.slice n H F,.slice t I G)).toArray 129)) wr.heap.size 129 (lC (x.lp i,.slice n H F,.slice t I G))):=hn_ _ _;have K:=bL y;have A:Hid (i.empty=MW x):=r;have C:=bL u;clear y u a r c;simp only[lC,aC.lp]at D z K;go_upto_region 16 with (refine wl_ rfl 129 (.tmp 44) rfl gv (k*8) rfl _ _ K.o underlying129 rfl sN ?_);generalize wr.alloc (c_ #[I_ x.mode,I_ x.emit,I_ x.act,I_ x.md,.bool i.empty,.slice n H F,.slice t I G,.bool x.down] 129)=W2 at *;have V:=bQ 4 z.o rfl;cases hd:i.empty with
     | true=>
      rw[hd]at V;have y:Hid (∀W,BH s w W zB 12 k):=fun W=>.inr (.inr ⟨O,all,Z.o,.inr (.inl ⟨R.o,k,⟨⟨x,C.o,by rw[<-A.o];exact hd⟩,b.o⟩,rfl,rfl,rfl⟩)⟩);have a:=D;clear D A b C z;obtain⟨u,r⟩:=ui a.o.be a.o.r a.o.ap (I_ 0) n_ n_;have J:=bL r;have z0:=bQ 0 a.o.r rfl;have z1:=bQ 1 a.o.r rfl;have z2:=bQ 2 a.o.r rfl;have f0:=bM a.o.r 0;have f1:=bM a.o.r 1;have f2:=bM a.o.r 2;clear r;go_wp2;exact br_ (by simp[results,results67,asAddr,Result.andThen,u]) rfl ⟨_,_,_,rfl,J.o,y.o _⟩
     | false=>
      rw[hd]at V;have r:=bL (nN.skip b.o C.o (by rw[<-A.o];exact hd));clear A b C z;go_wp2;go_roundg (all.length-(k+1));exact⟨k+1,o_,rfl,by go_num,D.o,r.o⟩;omega
    .have T:=nI k all.length;have e:k=all.length:=o_;have U:=bL (zq.of (f:=MW) (by rw[<-e];exact b.o));clear e b;obtain⟨d5,vp5,a,r⟩:=c.o.rd;obtain⟨i,n,rfl,_,_⟩:=eO r.own;have H:wr.drew.cell? (a_ g 2)=some (.slice i a.length n):=bN (j:=2) r.rb rfl;have u:=bL (c.o.below (Br_ wr.heap.size wr).drew);have y:=bL (r.below (Br_ wr.heap.size wr).drew);have x:=bL (Fw w.heap.size _ _ wr.drew u.o.lm (by rw[q.o];omega) (aal bd.1));clear r c;go_wp2_with fail;refine wd_ (S:=fun r=>r.cell? (a_ g 2)=some (.slice i a.length n)) k_ H (fun dK=>?_);refine cB 0 ?_;refine cB 2 ?_;refine cB 3 ?_;refine cB 4 ?_;refine fF 1 (fun K t=>?_);go_simp;refine x.o.mono ?_;clear x;rintro e I ⟨rfl,r⟩;have x:=bL (u.o.below r);have F:=bL (y.o.below r);have G:=bQ 2 F.o.rb rfl;clear r u y H;refine t.out _ _ G (fun gG=>?_);clear t K
     try simp only[oQ,Act.put]
     refine cB 5 ?_;refine fF 6 (fun K t=>?_);obtain⟨u,r⟩:=ui x.o.be x.o.r x.o.ap (I_ (mH (dx all).1)) (.slice l all.length p) (.slice i a.length n);have V:=jg I w.heap.size (I_ (mH (dx all).1)) (.slice l all.length p) (.slice i a.length n);have y:Hid (BH s w (kG I w.heap.size (I_ (mH (dx all).1)) (.slice l all.length p) (.slice i a.length n)) (.agg #[I_ (mH (dx all).1),.slice l all.length p,.slice i a.length n]) 0 0):=.inr (.inr ⟨O,all,Z.o,.inr (.inr ⟨R.o,U.o,_,_,_,_,_,_,rfl,rfl,rfl,x.o.lm.grown x.o.r d_ d_ V,F.o.plm.grown x.o.r d_ d_ V⟩)⟩);have H:(kG I w.heap.size (I_ (mH (dx all).1)) (.slice l all.length p) (.slice i a.length n)).cell? (a_ g 2)=some (.slice i a.length n):=bN (j:=2) (bR F.o.rb V (fun e=>dI F.o.rb x.o.r d_ (oi_ e))) rfl;have J:=bL r;clear r V;refine xq rfl 122 (.tmp 2) (.tmp 57) rfl w.heap.size 0 #[I_ (mH (dx all).1),.slice l all.length p,.slice i a.length n] rfl rfl (by have:=mq x.o.r;exact this) k_ (by simp[Value.oneCell']) ?_;refine t.out _ _ H (fun r=>?_);clear t K x F
     try simp only[gt_,List.getElem_cons_succ,cz_,Act.put]
     refine fF 7 (fun K t=>?_);go_simp;refine t.out _ _ r (fun x=>?_);clear t K
     try simp only[oQ,Act.put]
     refine fF 8 (fun K t=>?_);go_simp;refine t.out _ _ r (fun F=>?_);clear t K;refine wpAnyH_done k_ ?_ _;clear dK gG r x F H G;have u:(loadVar 122 (a_ w.heap.size 0)).run prog (I.setCells w.heap.size 0 [I_ (mH (dx all).1),.slice l all.length p,.slice i a.length n])=.ok (.agg #[I_ (mH (dx all).1),.slice l all.length p,.slice i a.length n]) (I.setCells w.heap.size 0 [I_ (mH (dx all).1),.slice l all.length p,.slice i a.length n]):=u;go_wp2;exact br_ (by simp[results,results67,asAddr,Result.andThen,u]) rfl ⟨_,_,_,rfl,J.o,y.o⟩
  .have a:=bL (rk.fB E.o d_ d_);have b:=bL (Q.o.trans rk.lo);have y:Hid (∀W,BH s w W zB 10 k):=fun W=>.inr (.inl ⟨o_,k,hF,rfl,rfl,rfl⟩);obtain⟨n,l,c⟩:=X;have p:=bQ 1 c.rb rfl;have z0:=bQ 0 a.o rfl;have z1:=bQ 1 a.o rfl;have z2:=bQ 2 a.o rfl;have f0:=bM a.o 0;have f1:=bM a.o 1;have f2:=bM a.o 2;have i:g≠w.heap.size:=dI c.rb a.o d_;have q:w.heap.size≠g:=fun e=>i e.symm;obtain⟨_,r⟩:=ui (gR:=w.heap.size) b.o a.o dF (I_ 0) n_ n_;have u:=CG (W:=(kG w2 w.heap.size (I_ 0) n_ n_).drew) (jE a.o (I_ 0) n_ n_);have J:=bL r;clear r c rk hF b a Q E L;go_wp2_with fail;go_region;all_goals
    go_wp2;exact br_ (by simp[results,results67,asAddr,Result.andThen,u]) rfl ⟨_,_,_,rfl,J.o.drew,y.o _⟩
end Go.Proofs.YtmccnmgaoppogabGreat
