import Derived.Test.YtmccnmgaoppogabGreatuKbw
namespace Go.Proofs.YtmccnmgaoppogabGreat
open Pu
set_option linter.all false
open Go.Proofs.Tryz Tryz
set_option maxRecDepth 100000
set_option maxHeartbeats 8000000
open Go.RowKit
theorem Dl.line{w W:W_}{s:Y_}{a:List aC}{g:Nat}{q:V_}{d:Option Addr}{l:Nat}(h:Dl w s a g q d l W)(n:∀x∈a,Np x){k:Nat}{x:aC}(p:a[k]?=some x) :
  ∃b,d=some (a_ b 0)/\W.cell? (a_ b (k*5+1))=some (I_ x.emit)/\W.cell? (a_ b (k*5+2))=some (I_ x.act)/\W.cell? (a_ b (k*5+3))=some (I_ x.md):=by
 have f:=Am a n;have c:=f.get k x p;have r:=(ge_.1 c).1;obtain⟨b,i,e,_,_⟩:=dL h.ln o_;cases e;exact⟨b,rfl,bV h.ln (qx c (j:=1) o_),bV h.ln (qx c (j:=2) o_),bV h.ln (qx c (j:=3) o_)⟩
structure Mm(w0 w:W_)(s:Y_)(all:List aC)(g gp:Nat)(vn:V_)(al:Option Addr)(cl:Nat)(ve vr vc:V_)(W:W_):Prop where
 be:B_ w W
 dl:Dl w0 s all g vn al cl W
 b:dh W gp 42 [ve,vr,vc]
 r:W.ownsRow w.heap.size 48 3 vr all.length (dP (jU (dx all).1))
theorem Mm.below{n w:W_}{s:Y_}{a:List aC}{g f:Nat}{k:V_}{d:Option Addr}{e:Nat}{j l i:V_}{W c:W_}(h:Mm n w s a g f k d e j l i W)(b:B_ W c):Mm n w s a g f k d e j l i c:=
 ⟨ja h.be b,h.dl.below b,bO h.b b (bP h.b),bW h.r b dF⟩
theorem Yw(a:List aC){k:Nat}{x:aC}(c:a[k]?=some x):(jU (dx a).1).getD k Pu.aY=⟨x.emit,x.act,x.md⟩:=by obtain⟨d,b,_⟩:=qP a c;unfold jU;rw[gd_,gm_,b];rfl
theorem abS(s str:Y_)(a:List aC)(g:Nat)(S:V_)(C:Option Addr)(v:Nat)(T w:W_)(hD:Dl T s a g S C v w)(D:uk s 0 [] a)(U:∀j,j<Pu.aV a->(gJ a j).length<=42)(O:str=strOfNums (Pu.rT (nH a))) :
  Calls prog 25 #[.string str,p_ g] w (mY (.bool true) w):=by
 have b:=tu D U;have k:=Gb b;rw[<-O]at k;have Ao:=D.Ao;have l:=Gv Ao.1;have f:=Am a Ao.1;have V:(nH a).ents.length=Pu.aV a:=by have:=(yN U).ents;rw[yZ]at this;exact this
 have n:(nH a).rules.length=a.length:=(Ha D).2;have G:(fQ a).modes=((Pu.aV a:Nat):Int):=by
  rcases f.modes with ⟨e,_⟩ | e
  .rw [e]at Ao;have:=Ao.2.1;simp at this
  .rw [e];exact l.1
 have LD:(fQ a).ls.length=a.length:=f.n;have c:str.size<=9223372036854775807:=by
  rw[O];have i:=Lu (nH a);have Z:(strOfNums (Pu.rT (nH a))).size=(Pu.rT (nH a)).length:=by simp[strOfNums,ByteArray.size]
  have d:=b.2.2.1.1.2;have e:=b.1.1.2;have p:=b.2.1.1.2;omega
 have e:=bL (uU str w c);have d:=bL k;have Y:=bL b;have W:=bL hD;have HL:=bL Ao.1;have amK:a.length<=16:=Ao.2.2;clear O k b hD D U Ao l f c;go_in;go_wp2_with fail;refine e.o.mono ?_;clear e;rintro e l Z;rcases Z with ⟨hF,hR,ve,vr,vc,rfl,b,E,A,Q⟩ | ⟨hN,rfl,b⟩
 .rw [d.o.2]at E A Q;have n1:nE str=Pu.aV a:=by have i:(eG str).ents.length=nE str:=qR _ _ _;rw[d.o.2,V]at i;exact i.symm
  have k:nR str=a.length:=by have i:(eG str).rules.length=nR str:=lH _ _ _;rw[d.o.2,n]at i;exact i.symm
  rw[n1]at E;rw[k]at A;obtain⟨q,u,rfl,_,_⟩:=eO E;obtain⟨r,y,rfl,_,_⟩:=eO A;obtain⟨p,t,rfl,_,_⟩:=eO Q;generalize nC str=z at *;have c:B_ l (l.alloc (c_ #[.slice q (Pu.aV a) u,.slice r a.length y,.slice p z t] 42)):=kM _;have f:Hid (Mm T w s a g l.heap.size S C v (.slice q (Pu.aV a) u) (.slice r a.length y) (.slice p z t) (l.alloc (c_ #[.slice q (Pu.aV a) u,.slice r a.length y,.slice p z t] 42))):=⟨ja b c,(W.o.below b).below c,hn_ _ _,bW A c dF⟩;clear b c E A Q n1 k hF hR d Y W V n;go_upto_region 2 with (fail);generalize l.alloc (c_ #[.slice q (Pu.aV a) u,.slice r a.length y,.slice p z t] 42)=H at *;generalize l.heap.size=gp at *;have x:=bQ 0 f.o.b rfl;have B:=bQ 1 f.o.b rfl;have k:H.cell? (a_ g 0)=some (I_ ((Pu.aV a:Nat):Int)):=by rw[<-G];exact bN (j:=0) f.o.dl.dr.rb rfl
  have I:H.cell? (a_ g 2)=some (.slice C a.length v):=by rw[<-LD];exact bN (j:=2) f.o.dl.dr.rb rfl
  have J:(((Pu.aV a:Nat):Int) != ((Pu.aV a:Nat):Int))=false:=i_;have K:(((a.length:Nat):Int) != ((a.length:Nat):Int))=false:=i_;have HMD:=bL G;have F:=bL LD;clear G LD;go_quiet (fail);have c:=bL (f.o.below (bd_ (Br_ _ _) nq));clear f x B k I J K;generalize H.drewN nq=W4 at *;go_wp2_with fail;go_loopg [7,8] a.length (fun gk f _ x=>∃(k:Nat),k<=a.length/\gk=a.length-k/\f=I_ k/\Mm T w s a g gp S C v (.slice q (Pu.aV a) u) (.slice r a.length y) (.slice p z t) x);exact⟨0,zl_ _,rfl,rfl,c.o⟩;clear c;obtain⟨k,kl,rfl,rfl,c⟩:=hrel;have B:=bQ 1 c.b rfl;by_cases hk:k<a.length
  .have dk:=oL k a.length;have wi:=kZ k;have OM:=jJ k;have IC:(k:Int)<a.length:=o_;obtain⟨x,J⟩:=rG a k hk;obtain⟨N,rfl,q1,q2,q3⟩:=c.dl.line HL.o J;have K:wr.cell? (a_ N (k*5+1+1))=some (I_ x.act):=q2;have R:wr.cell? (a_ N (k*5+1+2))=some (I_ x.md):=q3;have I:wr.cell? (a_ g 2)=some (s_ N a.length v):=by rw[<-F.o];exact bN (j:=2) c.dl.dr.rb rfl
   obtain⟨L,cr',er,_,_⟩:=dL c.r o_;cases er;have rg:=Yw a J;have qU:B_ wr (wr.alloc (c_ #[I_ x.emit,I_ x.act,I_ x.md] 48)):=kM _;have MA:=bL (c.below qU);have f:Hid (dh (wr.alloc (c_ #[I_ x.emit,I_ x.act,I_ x.md] 48)) wr.heap.size 48 [I_ x.emit,I_ x.act,I_ x.md]):=hn_ _ _;have X:=bL rg;clear c qU rg J;go_upto_region 8 with (fail);clear q1 q2 q3 K R I B;generalize wr.alloc (c_ #[I_ x.emit,I_ x.act,I_ x.md] 48)=I at *;generalize wr.heap.size=gx at *;have x0:=bQ 0 f.o rfl;have x1:=bQ 1 f.o rfl;have x2:=bQ 2 f.o rfl;have B:=bQ 1 MA.o.b rfl;have aO:=pz (jU (dx a).1) k (by unfold jU;rw[lm_,(jw a).n];exact hk);rw[X.o]at aO;have aY:I.cell? (a_ L (k*3))=some (I_ x.emit):=by have:=bV MA.o.r aO.1;rwa[Nat.mul_comm]at this
   have r1:I.cell? (a_ L (k*3+1))=some (I_ x.act):=by have:=bV MA.o.r aO.2.1;rwa[Nat.mul_comm]at this
   have r2:I.cell? (a_ L (k*3+2))=some (I_ x.md):=by have:=bV MA.o.r aO.2.2;rwa[Nat.mul_comm]at this
   have J:(x.emit != x.emit)=false:=i_;have K:(x.act != x.act)=false:=i_;have e3:(x.md != x.md)=false:=i_;clear aO X;go_quiet (fail);have R:=bL (MA.o.below (bd_ (Br_ _ _) nq));clear MA f x0 x1 x2 B aY r1 r2 J K e3;go_wp2;go_roundg (a.length-(k+1));exact⟨k+1,o_,rfl,by go_num,R.o⟩;omega
  .have dk:=nI k a.length;have f:=bL c.be;clear c;go_wp2;go_ret;exact⟨rfl,f.o⟩
 .exact absurd ⟨d.o.1,by rw[d.o.2];exact Y.o⟩ hN
theorem JR:(prog.info? 56).map (fun i=>(i.zero,i.size,i.bytes))=some (some (.agg #[.string ⟨#[]⟩,.pointer none]),2,24):=k_
theorem Jz{p:lZ}(a:gu p):(strOfNums (Pu.rT p)).size<=9223372036854775807:=by
 have b:=Lu p;have c:(strOfNums (Pu.rT p)).size=(Pu.rT p).length:=by simp[strOfNums,ByteArray.size]
 have d:=a.2.2.1.1.2;have e:=a.1.1.2;have f:=a.2.1.1.2;omega
def afy(i h:Nat)(kU:List V8)(Bj:V_)(w:W_)(e:Ending)(w':W_):Prop:=
 e=.returned (.bool true)/\(B_ w w'\/∃a d f b c,B_ w b/\I7 b a/\b.grownBy c Bj.ownBlock/\c.ownsRow h 56 2 (.slice d (kU.length+1) f) (kU.length+1) (wT kU++[.string a.s,.pointer (a.g.map fun g=>(a_ g 0))])/\w'=c.setCell (a_ i 0) (.slice d (kU.length+1) f))
theorem Ir(E k:Nat)(kU:List V8)(Bj QF Z:V_)(s:Y_)(w:W_)(R:dh w E 37 [Bj,QF,Z])(Q:w.ownsRow k 56 2 Bj kU.length (wT kU))(r:k<=w.heap.size)(hi:kU.length<=1099511627776)(S:zo s) :
  Calls prog 10 #[p_ E,.string s] w (afy E k kU Bj w):=by
 obtain⟨aS,G,H,I,J⟩:=ip_ JR;have i:=bL R;have K:=bL Q;have f:=bL S;clear R Q S;go_in;go_wp2_with fail;refine (Ob s w).mono ?_;rintro e w2 ⟨d,str,rfl,b,⟨⟨no,a⟩,l,n⟩⟩;have g:=bL (Jr s d no a w2 f.o);have c:=bL b;have z:=bL l;have A:=bL n;have C:=bL a;clear b a f l n;go_wp2_with fail;refine g.o.mono ?_;clear g;rintro e v ⟨p,rfl,a,r⟩;have l:=bL (ja c.o a);have B:=bL r;clear a r c;by_cases t:d=0
 .subst t;obtain⟨Y,g,T,N,O,a,rfl,n⟩:=B.o rfl;obtain⟨c,f,y,F,x,u⟩:=A.o rfl;have ea:=a.zJ f;subst ea;have D:s.size<=300:=by
   rcases C.o with ⟨_,h,_⟩ | ⟨h,_⟩ | ⟨h,_⟩
   .cases h
   .exact h
   .exact h
  have b:=bL (fun W (q:B_ v W)=>abS s str c g T N O _ W (n.below q) a x u);have L:Hid (∀W,B_ v W->I7 W ⟨str,c,some g⟩):=fun W q=>⟨by rw[u];exact Jz (tu a x),fun U e=>by cases e;exact⟨u,⟨_,s,T,N,O,a,D,(n.below q).dr,(n.below q).ln⟩,x⟩⟩;clear a f y F x u n z A B C;go_wp2_with fail;refine (LU 0 v).mono ?_;rintro e U ⟨rfl,a⟩;have f:=bL (ja l.o a);have n:=bL (b.o U a);have u:=bL a;clear a l b;go_wp2_with fail;refine n.o.mono ?_;clear n;rintro e b ⟨rfl,a⟩;have q:B_ b (b.alloc (c_ #[.string str,p_ g] 56)):=kM _;have n:=bL (ja (ja f.o a) q);have W:=bL (L.o _ (ja (ja u.o a) q));have X:=bL (bO i.o n.o (bP i.o));have F:=bL (bW K.o n.o dF);have x:=bL (bO i.o (ja f.o a) (bP i.o));have V:Hid (dh (b.alloc (c_ #[.string str,p_ g] 56)) b.heap.size 56 [.string str,p_ g]):=hn_ _ _;have DL:k<=(b.alloc (c_ #[.string str,p_ g] 56)).heap.size:=lt_ r n.o.size;have i1:=bQ 0 x.o rfl;clear a q f u L x i K;go_wp2_with (at_builtin;go_must (refine wo_ _ rfl (.tmp 37) (.tmp 41) 34 rfl k 56 aS (.agg #[.string ⟨#[]⟩,.pointer none]) 2 24 underlying34 G H I J rfl d_ Bj kU.length (wT kU) rfl F.o (a_ b.heap.size 0) 1 1 [.string str,p_ g] rfl rfl (fun j y a=>by have:=bN V.o a;simpa [add_eq]using this) (by intro u a;simp at a;rcases a with rfl | rfl <;> rfl) (by unfold maxLen;omega) o_ DL ?_);intro v8 w8 f a _;obtain⟨y,L,rfl,_,_⟩:=eO f;have q:=bL (fq F.o X.o d_ a);have k8:=bN (j:=0) q.o rfl;have f8:=bM q.o 0;have x:=bL f;have u:=bL a;clear f a);go_ret;exact⟨rfl,.inr ⟨⟨str,c,some g⟩,_,_,_,_,n.o,W.o,u.o,x.o,rfl⟩⟩
 .have b:=z.o t;subst b;have c:(d != 0)=true:=by simpa using t
  have g:(d == 0)=false:=by simpa using t
  have n:(d != d)=false:=i_;clear B z A C;go_wp2_with fail;refine (LU d v).mono ?_;rintro e U ⟨rfl,a⟩;have f:=bL (ja l.o a);clear a l;go_wp2;go_ret;exact⟨rfl,.inl f.o⟩
def afz(N:Nat)(S:BO)(w:W_)(e:Ending)(w':W_):Prop:=
 e=.returned (.bool true)/\Kept S.gd w w'/\(WI N S w'\/∃a b,WI N { S with kU:=S.kU++[a],Bj:=b } w')
theorem Iu(N:Nat)(S:BO)(s:Y_)(w:W_)(h:WI N S w)(f:S.kU.length<=1099511627776)(i:zo s) :
  C_ 10 #[p_ S.gw,.string s] w (afz N S w):=by
 have c:=ll_ (bP h.d);refine (Ir S.gw S.gd S.kU S.Bj S.QF _ s w h.q.w h.q.im c f i).mono ?_;rintro e n ⟨rfl,b | ⟨l,j,k,p,q,b,pk,d,g,rfl⟩⟩
 .exact⟨rfl,.below c b,.inl (h.below b)⟩
 .have a:=h.below b;exact⟨rfl,((Kept.below c b).trans (.row (ll_ (bP a.d)) a.q.im d_ d)).trans (.cell a.up.1 (fq a.q.im a.q.w d_ d) d_ 0 _),.inr ⟨_,_,a.image pk d g⟩⟩
theorem PV(Q y:Nat)(kU:List V8)(Bj QF dv:V_)(ve vr vc:V_)(p:lZ)(w:W_)(U:dh w Q 37 [Bj,QF,dv])(hv:w.ownsRow y 56 2 Bj kU.length (wT kU))(hd:y<=w.heap.size)(hi':kU.length<=1099511627776)(S:om w ve p.ents)(T:jX w vr p.rules)(R:Code w vc p.code)
  (hm:p.ents.length*8<=140737488351232) (hk:p.rules.length*24<=140737488351232) (hn:p.code.length*32<=140737488351232) :
  Calls prog 13 #[p_ Q,.agg #[ve,vr,vc]] w (afy Q y kU Bj w):=by
 obtain⟨aS,hi,V,W,X⟩:=ip_ info56;obtain⟨J,N,rfl,he1,he2⟩:=S.form;obtain⟨K,O,rfl,hr1,hr2⟩:=T.form;obtain⟨I,L,rfl,hc1,hc2⟩:=R.form;have H:=bL (And.intro S (And.intro T R));have G:=bL U;have A:=bP U;have HV:=bL hv;clear S T R U hv;have i:=bL ((Br_ w.heap.size w).alloc dF (c_ #[.slice J p.ents.length N,.slice K p.rules.length O,.slice I p.code.length L] 42));have a:dh (w.alloc (c_ #[.slice J p.ents.length N,.slice K p.rules.length O,.slice I p.code.length L] 42)) w.heap.size 42 [.slice J p.ents.length N,.slice K p.rules.length O,.slice I p.code.length L]:=hn_ _ _;have F:=bL a;clear a;go_in;go_wp2_with fail;refine (Sa _ _ _ p _ (H.o.1.below i.o) (H.o.2.1.below i.o) (H.o.2.2.below i.o) hm hk hn).mono ?_;rintro e q ⟨ge,z,x,rfl,a⟩;have n:=bO F.o a.qK i_;have zH:B_ w q:=i.o.trans (a.qK.mono i_);have hz1':w.heap.size<q.heap.size:=bP n;have C:=a.e0;have D:=a.aY;have B:=a.c0;simp only[wa_]at C D B;have g:=bL a;clear a;go_wp2_with fail;have r:=bL ((Br_ q.heap.size q).alloc dF (c_ #[s_ ge p.ents.length (p.ents.length+1),s_ z p.rules.length (p.rules.length+1),s_ x p.code.length (p.code.length+1)] 42));have u:dh (q.alloc (c_ #[s_ ge p.ents.length (p.ents.length+1),s_ z p.rules.length (p.rules.length+1),s_ x p.code.length (p.code.length+1)] 42)) q.heap.size 42 [s_ ge p.ents.length (p.ents.length+1),s_ z p.rules.length (p.rules.length+1),s_ x p.code.length (p.code.length+1)]:=hn_ _ _;refine (acd _ _ _ p _ (NU (cO g.o.ents _) o_ o_) (Jl (cO g.o.rules _) o_ o_) (NR (cO g.o.code _) o_ o_)).mono ?_;rintro e w2 ⟨s,c,rfl,a,k⟩;have d:=bO u a i_;have f:=bO (cO n _) a (by simp;omega);have Jf:=bO (cO g.o.ents _) a (by have:=bP g.o.ents;simp;omega);have v:=bO (cO g.o.rules _) a (by have:=bP g.o.rules;simp;omega);have t:=bO (cO g.o.code _) a (by have:=bP g.o.code;simp;omega);have E:B_ w w2:=zH.trans ((r.o.trans (a.mono i_)).mono o_);have Y:=bQ 0 d rfl;have Z:=bQ 1 d rfl;have o2:=bQ 2 d rfl;have p0:=bQ 0 f rfl;have p1:=bQ 1 f rfl;have p2:=bQ 2 f rfl;have l:=bL k;have b:=bL (And.intro d (And.intro f (And.intro Jf (And.intro v t))));clear u d n f Jf v t r a k g;go_wp2_with fail;refine (Za ge z x _ _ _ p _ b.o.2.2.1 b.o.2.2.2.1 b.o.2.2.2.2 (H.o.1.below E) (H.o.2.1.below E) (H.o.2.2.below E) o_ o_ o_).mono ?_;rintro e w3 ⟨rfl,a⟩;clear Y Z o2 p0 p1 p2;have d:=bO b.o.1 a (bP b.o.1);have r:=bO b.o.2.1 a (bP b.o.2.1);have k:=bO b.o.2.2.1 a (bP b.o.2.2.1);have n:=bO b.o.2.2.2.1 a (bP b.o.2.2.2.1);have g:=bO b.o.2.2.2.2 a (bP b.o.2.2.2.2);have NP:=ja E a;have Y:=bQ 0 d rfl;have Z:=bQ 1 d rfl;have o2:=bQ 2 d rfl;have f:=bL (And.intro r (And.intro k (And.intro n g)));clear d r k n g b a;go_wp2_with fail;refine (NV (w.heap.size+1) ge z x p.ents.length p.rules.length p.code.length _ _ _ _ f.o.2.1 f.o.2.2.1 f.o.2.2.2 (by simp[kY]) (by simp[gY];omega) (by simp[fT];omega) o_ o_ o_ (by have:=bP f.o.1;omega) o_ o_ o_).mono ?_;rintro e w4 ⟨rfl,d⟩;clear Y Z o2;have b:=bO f.o.1 d o_;have a:B_ w w4:=NP.trans (d.mono o_);have p0:=bQ 0 b rfl;have p1:=bQ 1 b rfl;have p2:=bQ 2 b rfl;clear f d b C D B;go_wp2_with fail;refine (Dv _ _ _ p _ (H.o.1.below a) (H.o.2.1.below a) (H.o.2.2.below a)).mono ?_;rintro e Y ⟨t,d,rfl,g,k⟩;clear p0 p1 p2;obtain⟨rfl,rfl⟩:=l.o.same k;have f:=ja a g;have b:=bO G.o f A;have v0:=bQ 0 b rfl;have f0:=bM b 0;have Z:=bL f;clear g H;rcases k with ⟨r,v,rfl⟩ | ⟨r,v,rfl⟩
 .have SM:Hid (s.size<=9223372036854775807):=by show s.size<=_;rw[v];exact Jz r
  have n:=bL (f.alloc f.size (c_ #[.string s,.pointer none] 56));have WA:=bL (bO G.o n.o A);have D:=bL (bW HV.o n.o dF);have DL:y<=(Y.alloc (c_ #[.string s,.pointer none] 56)).heap.size:=lt_ hd n.o.size;clear r v l f b G HV;go_wp2_with (first | (at_builtin;refine wo_ _ rfl (.tmp 47) (.tmp 50) 34 rfl y 56 aS (.agg #[.string ⟨#[]⟩,.pointer none]) 2 24 underlying34 hi V W X rfl d_ Bj kU.length (wT kU) rfl D.o (a_ Y.heap.size 0) 1 1 [.string s,.pointer none] rfl rfl (Rv rfl) (by intro u g;simp at g;rcases g with rfl | rfl <;> rfl) (by unfold maxLen;omega) o_ (by simp at *;omega) ?_;intro v8 w8 B u _;obtain⟨a8,c8,rfl,_,_⟩:=eO B;have C:=bL (fq D.o WA.o d_ u);have k8:=bN (j:=0) C.o rfl;have f8:=bM C.o 0;have O8:=bL B;have H:=bL u;clear B u) | go_in);go_ret;exact⟨rfl,.inr ⟨⟨s,[],none⟩,_,_,_,_,n.o,⟨SM.o,fun g e=>by cases e⟩,H.o,O8.o,rfl⟩⟩
 .clear r v l;go_wp2;go_ret;exact⟨rfl,.inl Z.o⟩
theorem PW(N:Nat)(S:BO)(g i f:V_)(p:lZ)(w:W_)(h:WI N S w)(n:S.kU.length<=1099511627776)(k:om w g p.ents)(l:jX w i p.rules)(j:Code w f p.code)
  (r:p.ents.length*8<=140737488351232) (q:p.rules.length*24<=140737488351232) (s:p.code.length*32<=140737488351232) :
  C_ 13 #[p_ S.gw,.agg #[g,i,f]] w (afz N S w):=by
 have c:=ll_ (bP h.d);refine (PV S.gw S.gd S.kU S.Bj S.QF _ g i f p w h.q.w h.q.im c n k l j r q s).mono ?_;rintro e y ⟨rfl,b | ⟨x,u,v,z,A,b,pk,d,t,rfl⟩⟩
 .exact⟨rfl,.below c b,.inl (h.below b)⟩
 .have a:=h.below b;exact⟨rfl,((Kept.below c b).trans (.row (ll_ (bP a.d)) a.q.im d_ d)).trans (.cell a.up.1 (fq a.q.im a.q.w d_ d) d_ 0 _),.inr ⟨_,_,a.image pk d t⟩⟩
def Out(B:Nat)(w:W_)(p:lZ)(b c a:V_):Prop:=
 w.ownsRow B 3 1 b p.ents.length (bY p.ents)/\w.ownsRow B 48 3 c p.rules.length (dP p.rules)/\w.ownsRow B 50 4 a p.code.length (dw p.code)
theorem Out.alloc{B:Nat}{w:W_}{p:lZ}{b c a:V_}(h:Out B w p b c a)(o:Obj):Out B (w.alloc o) p b c a:=⟨oa_ h.1 o,oa_ h.2.1 o,oa_ h.2.2 o⟩
theorem Out.below{B:Nat}{w w':W_}{p:lZ}{c d b:V_}(h:Out B w p c d b)(a:B_ w w'):Out B w' p c d b:=⟨bW h.1 a dF,bW h.2.1 a dF,bW h.2.2 a dF⟩
theorem Out.mono{B b:Nat}{w:W_}{p:lZ}{d e c:V_}(h:Out B w p d e c)(a:b<=B):Out b w p d e c:=⟨dH h.1 a,dH h.2.1 a,dH h.2.2 a⟩
theorem BJ.o{s:Y_}{w w':W_}{e:Ending}(h:BJ 2 s w e w'):∃p c b d a,e=.returned (.tuple #[.agg #[b,d,a],I_ c])/\B_ w w'/\Out w.heap.size w' p b d a/\((Form s/\gu (eG s))/\p=eG s/\c=0\/¬(Form s/\gu (eG s))/\p=⟨[],[],[]⟩/\c=2):=by
 rcases h with ⟨hF,l,b,d,a,rfl,f,g,i,j⟩ | ⟨k,rfl,f⟩
 .refine⟨eG s,0,b,d,a,rfl,f,⟨?_,?_,?_⟩,.inl ⟨⟨hF,l⟩,rfl,rfl⟩⟩
  .rw [show (eG s).ents.length=nE s from qR _ _ _];exact g
  .rw [show (eG s).rules.length=nR s from lH _ _ _];exact i
  .rw [show (eG s).code.length=nC s from tq _ _ _];exact j
 .exact⟨⟨[],[],[]⟩,2,_,_,_,rfl,f,⟨World.ownsRow_nil _ _ _ _,World.ownsRow_nil _ _ _ _,World.ownsRow_nil _ _ _ _⟩,.inr ⟨k,rfl,rfl⟩⟩
def afE(N:Nat)(S:BO)(w:W_)(e:Ending)(w':W_):Prop:=
 e=.returned (.bool true)/\Kept S.gd w w'/\∃a b c L M,(a.cap<=9223372036854775807/\b.cap<=9223372036854775807/\c.cap<=9223372036854775807)/\WI N { S with ks:=more (more (more S.ks 0 a) 1 b) 2 c,n:=S.n+1+1+1,L:=L,M:=M } w'
theorem zD(N:Nat)(S:BO)(s:Y_)(w:W_)(h:WI N S w)(hs:s.size<=9223372036854775807)(hn:0<=S.n/\S.n<=1099511627776)(K:∀j,(S.ks j).length<=1099511627776) :
  Calls prog 14 #[p_ S.gw,.string s] w (afE N S w):=by
 have H:=bL h;have y:=ll_ (bP h.d);clear h;go_in;go_wp2_with fail;refine (Hu s _ hs).mono ?_;intro e X U;obtain⟨p,c,ve,vr,vc,rfl,l,d,a⟩:=U.o;have HC1:=bL a;clear U a;have H1:=bL d;obtain⟨f,r,rfl,-,C,-⟩:=iO d.1;obtain⟨i,t,rfl,-,D,-⟩:=iO d.2.1;obtain⟨b,n,rfl,-,B,-⟩:=iO d.2.2;unfold maxLen at C D B;clear d;have hs1:=l.size;have Y:=bL l;clear l;go_wp2_with fail;refine (uU s _ hs).mono ?_;intro e E W;obtain⟨q,d,ue,ur,uc,rfl,u,l,a⟩:=W.o;have HC2:=bL a;clear W a;have hpq:p=q/\c=d:=by
  rcases HC1.o with ⟨a,rfl,rfl⟩ | ⟨a,rfl,rfl⟩ <;> rcases HC2.o with ⟨x,rfl,rfl⟩ | ⟨x,rfl,rfl⟩
  .exact⟨rfl,rfl⟩
  .exact absurd a x
  .exact absurd x a
  .exact⟨rfl,rfl⟩
 obtain⟨rfl,rfl⟩:=hpq;have H2:=bL l;obtain⟨be,de,rfl,-,-,-⟩:=iO l.1;obtain⟨br,dr,rfl,-,-,-⟩:=iO l.2.1;obtain⟨bc,dc,rfl,-,-,-⟩:=iO l.2.2;clear l;have l:Hid (dh (X.alloc (c_ #[.slice f p.ents.length r,.slice i p.rules.length t,.slice b p.code.length n] 42)) X.heap.size 42 [.slice f p.ents.length r,.slice i p.rules.length t,.slice b p.code.length n]):=hn_ _ _;have a:=bO l.o u (bP l.o);have x:Out w.heap.size E p _ _ _:=(H1.o.alloc _).below u;have zH:B_ w X:=Y.o;have DZ:B_ w E:=(zH.alloc hs1 _).trans (u.mono (by simp;omega));have hs2:w.heap.size<=E.heap.size:=DZ.size;have hs12:X.heap.size<E.heap.size:=bP a;have aW:=bQ 0 a rfl;have L:=bQ 1 a rfl;have U:=bQ 2 a rfl;have A:=bL a;have I:=bL x;clear a x u l;go_wp2_with fail;have Z:=bL ((Br_ E.heap.size E).alloc dF (c_ #[.slice be p.ents.length de,.slice br p.rules.length dr,.slice bc p.code.length dc] 42));have l:=I.o.alloc (c_ #[.slice be p.ents.length de,.slice br p.rules.length dr,.slice bc p.code.length dc] 42);have x:=H2.o.alloc (c_ #[.slice be p.ents.length de,.slice br p.rules.length dr,.slice bc p.code.length dc] 42);refine (yD _ _ _ _ _ _ p _ (vQ l.1 rfl) (vU l.2.1 rfl) (yo l.2.2 rfl) (vQ x.1 rfl) (vU x.2.1 rfl) (yo x.2.2 rfl)).mono ?_;rintro e F ⟨rfl,a⟩;have R:Out w.heap.size F p _ _ _:=l.below a;have u:=bO (cO A.o _) a (by have:=bP A.o;simp;omega);have Q:B_ w F:=(DZ.alloc hs2 _).trans (a.mono (by simp;omega));clear aW L U l x a;have l:=bL ((H.o.below Q).below (Br_ _ _).drew);have J:Hid (Kept S.gd w F.drew):=(Kept.below y Q).trans (.below (lt_ y Q.size) (Br_ _ _).drew);have T:=bL (EK 0 (v:=vv S.n 0) (R.below (Br_ _ _).drew).1);have P1:=bL (EK 1 (v:=vv S.n 1) (R.below (Br_ _ _).drew).2.1);have P2:=bL (EK 2 (v:=vv S.n 2) (R.below (Br_ _ _).drew).2.2);have FB:Hid (∀g,w.heap.size<=g->Far S.zs g):=fun g L z a=>by have k:=H.o.q.gz z a;obtain⟨O,x⟩:=k.c.fB;obtain⟨U,G⟩:=k.d.fB;have:=bP x;have:=bP G;omega
 have Q3:Hid (WQ N w.heap.size S S.zs F.drew):=⟨l.o.q.w,l.o.q.im,l.o.q.sc,fun k z a=>⟨(l.o.q.parts k z a).1,(H.o.q.parts k z a).2⟩,l.o.q.gz,Q.size,l.o.q.pic⟩;have O:Hid (∀(k:Fin 4) g,dX (dX (dX (fun _=>none) 0 f) 1 i) 2 b k=some (a_ g 0)->w.heap.size<=g):=fun k g e=>by
  match k,e with
  | ⟨0,_⟩,e=>exact T.o.2 g e
  | ⟨1,_⟩,e=>exact P1.o.2 g e
  | ⟨2,_⟩,e=>exact P2.o.2 g e
  | ⟨3,_⟩,e=>cases (show (none:Option Addr)=_ from e)
 have K0:Hid (KT (fun W=>WQ N w.heap.size S S.zs W/\Kept S.gd w W) S.gd (dX (dX (dX (fun _=>none) 0 f) 1 i) 2 b) (dX (dX (dX aS 0 r) 1 t) 2 n) aS (vv S.n) S.n S.L S.M (fun k=>(S.ks k).length) (fun k=>(S.ks k).length) (fun k=>(S.ks k).map fun x=>.slice x.ao x.cap x.cap) (fun k=>bY ((S.ks k).map (·.m))) F.drew):=
  ⟨⟨Q3.o,J.o⟩,l.o.d,fun k=>by
   match k with
   | ⟨0,_⟩=>exact T.o.1
   | ⟨1,_⟩=>exact P1.o.1
   | ⟨2,_⟩=>exact P2.o.1
   | ⟨3,_⟩=>exact .inl ⟨rfl,rfl⟩,l.o.l,l.o.m,l.o.apn,fun k g e e2=>by
   have:=T.o.2 g e;have:=(ol_ (H.o.m k) g e2).2;omega⟩
 have LT:Hid (wF S.gd (dX (dX (dX (fun _=>none) 0 f) 1 i) 2 b) S.L S.M (fun W=>WQ N w.heap.size S S.zs W/\Kept S.gd w W)):=(WQ.lets (fun k g e=>⟨O.o k g e,FB.o g (O.o k g e)⟩) H.o.yQ).and (Kept.lets S.L S.M y (fun k g e=>lt_ y (O.o k g e)));have G:Hid (∀a z,EZ (fun W=>WQ N w.heap.size S S.zs W/\Kept S.gd w W) S.gd (dX (dX (dX (fun _=>none) 0 f) 1 i) 2 b) (dX (dX (dX aS 0 r) 1 t) 2 n) S.n S.L S.M (fun k=>(S.ks k).length) (fun k=>(S.ks k).length) (fun k=>(S.ks k).map fun x=>.slice x.ao x.cap x.cap) (fun k=>bY ((S.ks k).map (·.m))) a z->a=.returned (.tuple #[])/\afE N S w (.returned (.bool true)) z):=fun a z hr=>by
  obtain⟨re,l0,l1,l2,n0,n1,n2,hk,h0,U,W⟩:=hr;refine⟨re,rfl,hk.q.2,⟨f,r,S.n+1⟩,⟨i,t,S.n+1+1⟩,⟨b,n,S.n+1+1+1⟩,_,_,⟨C,D,B⟩,WI.kept _ hk.fst (fun k z a=>?_) (fun k=>?_) (fun k=>?_) (fun k g e=>?_) H.o.yQ H.o.ap H.o.up⟩
  .match k,a with
   | ⟨0,_⟩,a=>exact (ma_.1 (show z∈S.ks 0++[_] from a)).imp id (fun h=>by rw[List.mem_singleton.1 h];exact⟨rfl,rfl,rfl,rfl⟩)
   | ⟨1,_⟩,a=>exact (ma_.1 (show z∈S.ks 1++[_] from a)).imp id (fun h=>by rw[List.mem_singleton.1 h];exact⟨rfl,rfl,rfl,rfl⟩)
   | ⟨2,_⟩,a=>exact (ma_.1 (show z∈S.ks 2++[_] from a)).imp id (fun h=>by rw[List.mem_singleton.1 h];exact⟨rfl,rfl,rfl,rfl⟩)
   | ⟨3,_⟩,a=>exact .inl a
  .match k with
   | ⟨0,_⟩=>exact⟨by show (S.ks 0).length+1=(S.ks 0++[(⟨f,r,S.n+1⟩:Tl)]).length;simp,by show ((S.ks 0).map fun x=>Value.slice x.ao x.cap x.cap)++[.slice f r r]=(S.ks 0++[(⟨f,r,S.n+1⟩:Tl)]).map fun x=>Value.slice x.ao x.cap x.cap;simp⟩
   | ⟨1,_⟩=>exact⟨by show (S.ks 1).length+1=(S.ks 1++[(⟨i,t,S.n+1+1⟩:Tl)]).length;simp,by show ((S.ks 1).map fun x=>Value.slice x.ao x.cap x.cap)++[.slice i t t]=(S.ks 1++[(⟨i,t,S.n+1+1⟩:Tl)]).map fun x=>Value.slice x.ao x.cap x.cap;simp⟩
   | ⟨2,_⟩=>exact⟨by show (S.ks 2).length+1=(S.ks 2++[(⟨b,n,S.n+1+1+1⟩:Tl)]).length;simp,by show ((S.ks 2).map fun x=>Value.slice x.ao x.cap x.cap)++[.slice b n n]=(S.ks 2++[(⟨b,n,S.n+1+1+1⟩:Tl)]).map fun x=>Value.slice x.ao x.cap x.cap;simp⟩
   | ⟨3,_⟩=>exact⟨rfl,rfl⟩
  .match k with
   | ⟨0,_⟩=>exact⟨by show (S.ks 0).length+1=(S.ks 0++[(⟨f,r,S.n+1⟩:Tl)]).length;simp,by show bY ((S.ks 0).map (·.m))++[I_ (S.n+1)]=bY ((S.ks 0++[(⟨f,r,S.n+1⟩:Tl)]).map (·.m));simp[bY]⟩
   | ⟨1,_⟩=>exact⟨by show (S.ks 1).length+1=(S.ks 1++[(⟨i,t,S.n+1+1⟩:Tl)]).length;simp,by show bY ((S.ks 1).map (·.m))++[I_ (S.n+1+1)]=bY ((S.ks 1++[(⟨i,t,S.n+1+1⟩:Tl)]).map (·.m));simp[bY]⟩
   | ⟨2,_⟩=>exact⟨by show (S.ks 2).length+1=(S.ks 2++[(⟨b,n,S.n+1+1+1⟩:Tl)]).length;simp,by show bY ((S.ks 2).map (·.m))++[I_ (S.n+1+1+1)]=bY ((S.ks 2++[(⟨b,n,S.n+1+1+1⟩:Tl)]).map (·.m));simp[bY]⟩
   | ⟨3,_⟩=>exact⟨rfl,rfl⟩
  .match k,e with
   | ⟨0,_⟩,e=>exact (h0 g e).imp id (fun ⟨V,x,L⟩=>⟨V,x.1,L⟩)
   | ⟨1,_⟩,e=>exact (U g e).imp id (fun ⟨V,x,L⟩=>⟨V,x.1,L⟩)
   | ⟨2,_⟩,e=>exact (W g e).imp id (fun ⟨V,x,L⟩=>⟨V,x.1,L⟩)
   | ⟨3,_⟩,e=>exact .inl e
 have aW:=bQ 0 u rfl;have L:=bQ 1 u rfl;have U:=bQ 2 u rfl;have V:F.cell? (a_ S.gw 2)=some (p_ S.gd):=bN (j:=2) l.o.q.w rfl;clear u R I Z A H1 H2 l J T P1 P2 FB Q3 O;go_wp2_with fail;go_region_with (go_at_call 39;refine (Ec _ S.gd _ f i b _ _ _ r t n _ S.n S.L S.M _ _ _ _ _ LT.o rfl rfl rfl rfl rfl rfl hn C D B (fun k=>⟨K k,K k⟩) (by exact K0.o)).mono ?_;intro e z l;obtain⟨rfl,a⟩:=G.o _ _ l;clear l);all_goals
  have x:(c == c)=true:=i_;have u:=bL a;clear aW L U V a G K0 LT;go_wp2_with go_in;go_ret;exact u.o
end Go.Proofs.YtmccnmgaoppogabGreat
