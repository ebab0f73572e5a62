import Derived.Test.YtmccnmgaoppogabGreatuKae
namespace Go.Proofs.YtmccnmgaoppogabGreat
open Pu
set_option linter.all false
open Go.Proofs.Tryz Tryz
set_option maxRecDepth 100000
set_option maxHeartbeats 8000000
open Go.RowKit
variable {vp x y z:V_} {B g gR i j:Nat} {s:Y_} {d:Bool} {W w w':W_} {e:Ending} {ps:List Pu.aJ} {qs:List (Pu.aJ × V_)} {nt:aH} {nf:aG}
def aiI(B g:Nat)(s:Y_)(i:Nat)(d:Bool)(ps:List Pu.aJ)(w:W_)(e:Ending)(w':W_):Prop:=
 e=.returned (.tuple #[])/\∃vp qs,Rk B w w'/\Rd B g s i ps d vp qs w'
section
variable {B g i:Nat} {s:Y_} {ps:List Pu.aJ} {d:Bool} {vp:V_} {qs:List (Pu.aJ × V_)} {W W':W_}
theorem Rd.get(h:Rd B g s i ps d vp qs W){p:Nat}{x:Pu.aJ}(a:ps[p]?=some x):∃v,qs[p]?=some (x,v)/\fe W v x.next:=by
 rw[<-h.ps,gm_]at a;cases hq:qs[p]? with
 | none=>rw[hq]at a;cases a
 | some q=>rw[hq]at a;have e:q.1=x:=oi_ a;subst e;exact⟨q.2,rfl,h.nx q (mg_ hq)⟩
theorem Gu{α:Type}{l:List α}{p:Nat}{x:α}(f:α->α)(h:l[p]?=some x):l.modify p f=l.set p (f x):=by
 apply List.ext_getElem?;intro j;rw[List.getElem?_modify,List.getElem?_set];by_cases a:p=j
 .subst a;have b:=(ge_.1 h).1;rw[h];simp[b]
 .simp [a]
theorem Rd.lead{a b:Nat}(h:Rd B g s i ps d (s_ a qs.length b) qs W){p:Nat}{x:Pu.aJ}{v u:V_}(n:qs[p]?=some (x,v)){tl:List Nat}(A:fe W u (Pu.un x.next tl)) :
  Rd B g s i (xf tl ps p) d (s_ a qs.length b) (qs.set p ({ x with next:=Pu.un x.next tl },u)) (W.setCell (a_ a (p*257+256)) u)/\Rk B W (W.setCell (a_ a (p*257+256)) u):=by
 have l:=LZ (j:=p*257+256) (u:=u) h.own;have f:=gs_ W a (p*257+256) u;have rk:Rk B W (W.setCell (a_ a (p*257+256)) u):=Rk.row h.own h.lt f;rw[aeX n]at l;refine⟨⟨dZ h.own h.rb d_ f,h.up,by rw[le_];exact l,?_,fun q t=>?_⟩,rk⟩
 .have r:ps[p]?=some x:=by rw[<-h.ps,gm_,n];rfl
  rw[List.map_set,h.ps];unfold xf;rw[Gu _ r]
 .rcases List.mem_or_eq_of_mem_set t with k | k
  .exact rk.jK (h.nx q k)
  .subst k;exact rk.jK A
theorem Rd.some(h:Rd B g s i ps d vp qs W)(l:0<qs.length):∃b a,vp=s_ b qs.length a/\qs.length<=a/\a<=9223372036854775807/\b<W.heap.size:=by obtain⟨b,a,e,f,k⟩:=dL h.own l;have:=h.own;rw[e]at this;exact⟨b,a,e,f,k,(iN this).2⟩
end
theorem Pb(B g i:Nat)(s:Y_)(ps:List Pu.aJ)(d:Bool)(vp:V_)(qs:List (Pu.aJ × V_))(vf vt:V_)(fr tl:List Nat)(w:W_)(h:Rd B g s i ps d vp qs w)(b:jh ps)(hl:ps.length<=1000)(N:fe w vf fr)(R:fe w vt tl)(J:sJ ps.length fr)(L:sJ ps.length tl) :
  Calls prog 163 #[p_ g,vf,vt] w (aiI B g s i d (Pu.leads fr tl ps) w):=by
 obtain⟨af,cf,rfl,f1,f2,f3⟩:=N.form;obtain⟨at2,ct,rfl,t1,t2,t3⟩:=R.form;have fl:=J.len;have tll:=L.len;have V:=bL N;have HT:=bL R;have H1:=bL J;have H2:=bL L;have a:Hid (∃vp qs,Rk B w w/\Rd B g s i (Pu.leads (fr.take 0) tl ps) d vp qs w/\jh (Pu.leads (fr.take 0) tl ps)):=⟨vp,qs,Rk.refl _ _,h,b⟩;have HOK:=bL b;clear N R h J L b;go_in;go_wp2_with fail;go_loopg [10] fr.length (fun gk l f=>∃k:Nat,k<=fr.length/\l=I_ k/\gk=fr.length-k/\∃vp qs,Rk B w f/\Rd B g s i (Pu.leads (fr.take k) tl ps) d vp qs f/\jh (Pu.leads (fr.take k) tl ps));exact⟨0,zl_ _,rfl,rfl,a.o⟩;clear a;obtain⟨k,hk,rfl,rfl,vp',l,f,a,b⟩:=hrel;by_cases O:k<fr.length
 .have d1:=oL k fr.length;have wi:=kZ k;obtain⟨p,C⟩:=rG fr k O;have Q:p<ps.length:=H1.o.2 p (mg_ C);have t:=ou (fr.take k) tl ps;obtain⟨x,F⟩:∃x,(Pu.leads (fr.take k) tl ps)[p]?=some x:=⟨_,gg_ (by rw[t];exact Q)⟩;obtain⟨v,D,E⟩:=a.get F;have H:=a.len;rw[t]at H;have hpq:p<l.length:=o_;obtain⟨n,q,rfl,c1,c2,c3⟩:=a.some o_;obtain⟨gf,ef,gl,gc⟩:=V.o.some o_;subst ef;have r:=b x (mg_ F);rw[t]at r;have xl:=r.len;obtain⟨G,I,rfl,v1,v2,v3⟩:=E.form;have U:=bL (qh _ _ x.next tl wr.drew (E.below ((Br_ _ _).drew)) ((f.jK HT.o).below ((Br_ _ _).drew)) o_ o_);have Z:wr.cell? (a_ gf k)=some (I_ p):=by have:=(f.jK V.o);obtain⟨g',K,_,A⟩:=this.some o_;cases K;exact A k p C
  have K:=bQ 2 a.rb rfl;have e3:wr.cell? (a_ n (p*257+256))=some (.slice G x.next.length I):=bV a.own (GU D);have S1:wr.drew.cell? (a_ g 2)=some (s_ n l.length q):=K;have ip0:=jJ p;have ip1:(p:Int)<l.length:=o_;have Y:Hid (Pu.leads (fr.take (k+1)) tl ps=xf tl (Pu.leads (fr.take k) tl ps) p):=by show _=_;rw[List.take_add_one,C];simp[Pu.leads]
  have A:=bL a;have RK:=bL f;have OK:=bL b;have X:=bL D;have QL:=bL H;have ZK:=bL t;clear a f b D E gc F C r H t;go_wp2_with fail;clear Z K;have e4:wr.drew.cell? (a_ n (p*257+256))=some (.slice G x.next.length I):=e3;have ngp:g≠n:=fun e=>by
   have r:=A.o.rb;have F:=A.o.own;rcases F.2 with ⟨t,_⟩ | ⟨g',C,D,t,_,E,_⟩
   .cases t
   .cases t;unfold Rb dh at r;rw[e,E]at r;cases r
  have C:Hid (∀w',B_ wr.drew w'->w'.cell? (a_ g 2)=some (s_ n l.length q)/\w'.cell? (a_ n (p*257+256))=some (.slice G x.next.length I)/\w'.frozen? (a_ n (p*257+256))=false/\∀v,(w'.setCell (a_ n (p*257+256)) v).cell? (a_ g 2)=some (s_ n l.length q)):=fun w' r=>by have E:=A.o.below (Below.drew (Br_ wr.heap.size wr));have t:=E.below r;have D:=bQ 2 t.rb rfl;refine⟨D,bV t.own (GU X.o),Tz t.own _,fun v=>?_⟩;rw[World.cell?_setCell_other _ _ _ _ i_];exact D
  refine wd_ (S:=fun w'=>w'.cell? (a_ g 2)=some (s_ n l.length q)) k_ S1 (fun dK=>?_);refine cB 0 ?_;refine cB 1 ?_;refine cB 2 ?_;refine cB 3 ?_;refine cB 4 ?_;refine cB 5 ?_;refine cB 6 ?_;refine cB 7 ?_;refine cB 8 ?_;refine cB 9 ?_;refine cB 10 ?_;refine cB 11 ?_;refine cB 13 ?_;refine fF 12 (fun K t=>?_);go_simp;refine t.out _ _ dK (fun gG=>?_);clear t K
  try simp only[Act.put,sb_]
  refine fF 14 (fun K t=>?_);go_simp;refine U.o.mono ?_;clear U;rintro e w' ⟨u0,rfl,r,U⟩;obtain⟨F,H,rfl,u1,u2⟩:=eO U;have D:=C.o w' r;have kq:=D.2.1;have kf:=D.2.2.1;have E:=bL r;have Z:Hid (fe w' (.slice F (Pu.un x.next tl).length H) (Pu.un x.next tl)):=dH U (zl_ _);clear r U C;refine t.out _ _ D.1 (fun lT=>?_);clear t K
  try simp only[Act.put,sb_]
  refine cB 15 ?_;refine cB 16 ?_;refine fF 17 (fun K t=>?_);go_simp;refine t.out _ _ (D.2.2.2 _) (fun kT=>?_);clear t K;refine wpAnyH_done k_ ?_ _;have U:=bL (((A.o.below (Below.drew (Br_ wr.heap.size wr))).below E.o).lead X.o Z.o);have K2:Hid (Rk B w (w'.setCell (a_ n (p*257+256)) (.slice F (Pu.un x.next tl).length H))):=(RK.o.trans (.below A.o.lt (ja (Below.drew (Br_ wr.heap.size wr)) E.o))).trans U.o.2;have C:Hid (jh (Pu.leads (fr.take (k+1)) tl ps)):=by show jh _;rw[Y.o];exact O4 OK.o (by rw[ZK.o];exact H2.o)
  clear dK gG lT kT D kq kf E Z;generalize w'.setCell (a_ n (p*257+256)) (.slice F (Pu.un x.next tl).length H)=D at *;go_wp2;go_roundg (fr.length-(k+1));exact⟨k+1,o_,by go_num,rfl,_,_,K2.o,by rw[Y.o];exact U.o.1,C.o⟩;omega
 .have d1:=nI k fr.length;have e:k=fr.length:=o_;subst e;rw[List.take_length]at a;have A:=bL a;have RK:=bL f;clear a f b;go_wp2;go_end0;exact⟨rfl,_,_,RK.o,A.o⟩
def Pm(W:W_)(v:V_)(a:aK):Prop:=∃b nf h f l k,v=.agg #[.bool a.empty,.slice b nf h,.slice f l k]/\fe W (.slice b nf h) a.first/\fe W (.slice f l k) a.last
theorem zC(w:W_)(t:Nat)(a b f:List V_) :
  dh (((w.alloc (c_ a.toArray t)).alloc (c_ b.toArray t)).alloc (c_ f.toArray t)) w.heap.size t a/\dh (((w.alloc (c_ a.toArray t)).alloc (c_ b.toArray t)).alloc (c_ f.toArray t)) (w.heap.size+1) t b/\dh (((w.alloc (c_ a.toArray t)).alloc (c_ b.toArray t)).alloc (c_ f.toArray t)) (w.heap.size+1+1) t f:=by
 have l:=hn_ w (c_ a.toArray t);have h:=hn_ (w.alloc (c_ a.toArray t)) (c_ b.toArray t);rw[wa_]at h;have k:=hn_ ((w.alloc (c_ a.toArray t)).alloc (c_ b.toArray t)) (c_ f.toArray t);rw[wa_,wa_]at k;exact⟨cO (cO l _) _,cO h _,k⟩
theorem Nv.pm{r:aK × List Pu.aJ}(h:Nv B g s i d r w e w'):∃v vp qs,e=.returned v/\Pm w' v r.1/\Rk B w w'/\Rd B g s i r.2 d vp qs w':=by obtain⟨vf,vl,vp,qs,rfl,f,k,a,b⟩:=h;obtain⟨l,p,rfl,_⟩:=a.form;obtain⟨n,q,rfl,_⟩:=b.form;exact⟨_,vp,qs,rfl,⟨_,_,_,_,_,_,rfl,a,b⟩,f,k⟩
theorem Pm.rk{v:V_}{a:aK}(h:Pm w v a)(b:Rk B w w'):Pm w' v a:=by obtain⟨f,nf,l,k,r,n,e,p,q⟩:=h;exact⟨f,nf,l,k,r,n,e,b.jK p,b.jK q⟩
theorem Pm.below{w w':W_}{v:V_}{a:aK}(h:Pm w v a)(b:B_ w w'):Pm w' v a:=by obtain⟨f,nf,l,k,r,n,e,p,q⟩:=h;exact⟨f,nf,l,k,r,n,e,p.below b,q.below b⟩
theorem Pm.grown{v:V_}{a:aK}{t:Nat}{xs:List V_}(h:Pm w v a)(b:dh w g t xs)(k:t≠3)(f:w.grownBy w' (some g)):Pm w' v a:=by obtain⟨l,nf,p,n,C,q,e,r,A⟩:=h;exact⟨l,nf,p,n,C,q,e,dM r b k f,dM A b k f⟩
theorem FE(va vb:V_)(a b:aK)(w:W_)(ha:Pm w va a)(hb:Pm w vb b)(n:Nat)(hn:n<=1000)(oa:nO n a)(ob:nO n b) :
  Calls prog 150 #[va,vb] w (fun e w'=>∃v,e=.returned v/\Pm w' v (Pu.either a b)/\B_ w w'):=by
 obtain⟨J,nf,O,K,X,Q,rfl,f,k⟩:=ha;obtain⟨L,U,R,N,V,S,rfl,q,r⟩:=hb;have la:=oa.1.len;have la':=oa.2.len;have lb:=ob.1.len;have lb':=ob.2.len;obtain⟨ea,aP,p⟩:=a;obtain⟨eb,aQ,l⟩:=b;simp only at f k q r la la' lb lb';have A1:=bL f;have A2:=bL k;have B1:=bL q;have B2:=bL r;clear f k q r oa ob;have f:=bL (zC w 127 [.bool ea,.slice J nf O,.slice K X Q] [.bool eb,.slice L U R,.slice N V S] [.bool false,n_,n_]);have C:Hid (B_ w (((w.alloc (c_ #[.bool ea,.slice J nf O,.slice K X Q] 127)).alloc (c_ #[.bool eb,.slice L U R,.slice N V S] 127)).alloc (c_ #[.bool false,n_,n_] 127))):=(((Br_ w.heap.size w).alloc dF _).alloc i_ _).alloc (by simp;omega) _;have q:=bQ 1 f.o.1 rfl;have k:=bQ 2 f.o.1 rfl;have r:=bQ 1 f.o.2.1 rfl;have t:=bQ 2 f.o.2.1 rfl;go_in;go_wp2_with fail;generalize ((w.alloc (c_ #[.bool ea,.slice J nf O,.slice K X Q] 127)).alloc (c_ #[.bool eb,.slice L U R,.slice N V S] 127)).alloc (c_ #[.bool false,n_,n_] 127)=W0 at *;refine (qh _ _ aP aQ W0 (A1.o.below C.o) (B1.o.below C.o) o_ o_).mono ?_;clear q r k t;rintro e F ⟨u1,rfl,k,t⟩;have H:Hid (dh F w.heap.size 127 [.bool ea,.slice J nf O,.slice K X Q]):=bO f.o.1 k (bP f.o.1);have I:Hid (dh F (w.heap.size+1) 127 [.bool eb,.slice L U R,.slice N V S]):=bO f.o.2.1 k (bP f.o.2.1);have T3:Hid (dh F (w.heap.size+1+1) 127 [.bool false,n_,n_]):=bO f.o.2.2 k (bP f.o.2.2);have q:=bL (ja C.o k);obtain⟨r,A,rfl,_,_⟩:=eO t;have N1:Hid (fe F (.slice r (Pu.un aP aQ).length A) (Pu.un aP aQ)):=dH t (zl_ _);clear k t f C;have k:=bQ 2 H.o rfl;have t:=bQ 2 I.o rfl;go_wp2_with fail;refine (qh _ _ p l F (A2.o.below q.o) (B2.o.below q.o) o_ o_).mono ?_;clear k t;rintro e G ⟨u2,rfl,k,D⟩;have Z:=bL (bO H.o k (bP H.o));have T2':=bL (bO I.o k (bP I.o));have f:=bL (bO T3.o k (bP T3.o));have E:=bL (ja q.o k);obtain⟨t,C,rfl,_,_⟩:=eO D;have Y:=bL (N1.o.below k);have N2:Hid (fe G (.slice t (Pu.un p l).length C) (Pu.un p l)):=dH D (zl_ _);clear k D H I T3 q N1;have x0:=bQ 0 Z.o rfl;have y0:=bQ 0 T2'.o rfl;have z0:=bQ 0 f.o rfl;have z1:=bQ 1 f.o rfl;have z2:=bQ 2 f.o rfl;have f0:=bM f.o 0;have f1:=bM f.o 1;have f2:=bM f.o 2;have q:Hid (∀c:Bool,c=(ea || eb)->dh (((G.setCell (a_ (w.heap.size+1+1) 0) (.bool c)).setCell (a_ (w.heap.size+1+1) 1) (.slice r (Pu.un aP aQ).length A)).setCell (a_ (w.heap.size+1+1) 2) (.slice t (Pu.un p l).length C)) (w.heap.size+1+1) 127 [.bool c,.slice r (Pu.un aP aQ).length A,.slice t (Pu.un p l).length C]/\Pm (((G.setCell (a_ (w.heap.size+1+1) 0) (.bool c)).setCell (a_ (w.heap.size+1+1) 1) (.slice r (Pu.un aP aQ).length A)).setCell (a_ (w.heap.size+1+1) 2) (.slice t (Pu.un p l).length C)) (.agg #[.bool c,.slice r (Pu.un aP aQ).length A,.slice t (Pu.un p l).length C]) (Pu.either ⟨ea,aP,p⟩ ⟨eb,aQ,l⟩)/\B_ w (((G.setCell (a_ (w.heap.size+1+1) 0) (.bool c)).setCell (a_ (w.heap.size+1+1) 1) (.slice r (Pu.un aP aQ).length A)).setCell (a_ (w.heap.size+1+1) 2) (.slice t (Pu.un p l).length C))):=fun c H=>by have D:=jg G (w.heap.size+1+1) (.bool c) (.slice r (Pu.un aP aQ).length A) (.slice t (Pu.un p l).length C);refine⟨jE f.o _ _ _,⟨_,_,_,_,_,_,by rw[H];rfl,dM Y.o f.o d_ D,dM N2.o f.o d_ D⟩,E.o.grown D E.o.size (fun k e=>by cases e;omega)⟩
 cases ea <;> cases eb
 all_goals
  go_wp2;obtain⟨D,H,I⟩:=q.o _ rfl;have k:=oC D;simp only[Bool.or_false,Bool.or_true]at k;exact br_ (by simp[results,results150,asAddr,k]) rfl ⟨_,rfl,H,I⟩
theorem DJ(w:W_)(t:Nat)(a b:List V_) :
  dh ((w.alloc (c_ a.toArray t)).alloc (c_ b.toArray t)) w.heap.size t a/\dh ((w.alloc (c_ a.toArray t)).alloc (c_ b.toArray t)) (w.heap.size+1) t b:=by
 have h:=hn_ w (c_ a.toArray t);have f:=hn_ (w.alloc (c_ a.toArray t)) (c_ b.toArray t);rw[wa_]at f;exact⟨cO h _,f⟩
structure IT(B g:Nat)(s:Y_)(i:Nat)(d:Bool)(ps:List Pu.aJ)(w:W_)(gA gB gR gW:Nat)(ea eb c:Bool)(vfa vla vfb vlb vf vl:V_)(aP la aQ lb fl ll:List Nat)(W:W_):Prop where
 a:dh W gA 127 [.bool ea,vfa,vla]
 b:dh W gB 127 [.bool eb,vfb,vlb]
 r:dh W gR 127 [.bool false,n_,n_]
 m:dh W gW 127 [.bool c,vf,vl]
 nfa:fe W vfa aP
 nla:fe W vla la
 nfb:fe W vfb aQ
 nlb:fe W vlb lb
 nf:fe W vf fl
 nl:fe W vl ll
 rd:∃vp qs,Rd B g s i ps d vp qs W
 rk:Rk B w W
 ap:gA≠gW/\gB≠gW/\gR≠gW/\w.heap.size<=gW/\w.heap.size<=gR/\B<=w.heap.size
section
variable {B g:Nat} {s:Y_} {i:Nat} {d:Bool} {ps:List Pu.aJ} {w:W_} {gA gB gR gW:Nat} {ea eb c:Bool} {vfa vla vfb vlb vf vl u:V_} {aP la aQ lb fl ll ul:List Nat} {W W':W_}
theorem IT.below(h:IT B g s i d ps w gA gB gR gW ea eb c vfa vla vfb vlb vf vl aP la aQ lb fl ll W)(a:B_ W W'):IT B g s i d ps w gA gB gR gW ea eb c vfa vla vfb vlb vf vl aP la aQ lb fl ll W':=by obtain⟨vp,qs,b⟩:=h.rd;exact⟨bO h.a a (bP h.a),bO h.b a (bP h.b),bO h.r a (bP h.r),bO h.m a (bP h.m),h.nfa.below a,h.nla.below a,h.nfb.below a,h.nlb.below a,h.nf.below a,h.nl.below a,⟨vp,qs,b.below a⟩,h.rk.trans (.below b.lt a),h.ap⟩
theorem IT.first(h:IT B g s i d ps w gA gB gR gW ea eb c vfa vla vfb vlb vf vl aP la aQ lb fl ll W)(b:fe W u ul):IT B g s i d ps w gA gB gR gW ea eb c vfa vla vfb vlb u vl aP la aQ lb ul ll (W.setCell (a_ gW 1) u):=by obtain⟨vp,qs,f⟩:=h.rd;have a:=gs_ W gW 1 u;exact⟨bU h.a h.ap.1 _ _,bU h.b h.ap.2.1 _ _,bU h.r h.ap.2.2.1 _ _,cK h.m 1 u,dM h.nfa h.m d_ a,dM h.nla h.m d_ a,dM h.nfb h.m d_ a,dM h.nlb h.m d_ a,dM b h.m d_ a,dM h.nl h.m d_ a,⟨vp,qs,f.yQ h.m d_ d_ d_ a⟩,h.rk.fresh a h.ap.2.2.2.1 h.ap.2.2.2.2.2,h.ap⟩
theorem IT.last(h:IT B g s i d ps w gA gB gR gW ea eb c vfa vla vfb vlb vf vl aP la aQ lb fl ll W)(b:fe W u ul):IT B g s i d ps w gA gB gR gW ea eb c vfa vla vfb vlb vf u aP la aQ lb fl ul (W.setCell (a_ gW 2) u):=by obtain⟨vp,qs,f⟩:=h.rd;have a:=gs_ W gW 2 u;exact⟨bU h.a h.ap.1 _ _,bU h.b h.ap.2.1 _ _,bU h.r h.ap.2.2.1 _ _,cK h.m 2 u,dM h.nfa h.m d_ a,dM h.nla h.m d_ a,dM h.nfb h.m d_ a,dM h.nlb h.m d_ a,dM h.nf h.m d_ a,dM b h.m d_ a,⟨vp,qs,f.yQ h.m d_ d_ d_ a⟩,h.rk.fresh a h.ap.2.2.2.1 h.ap.2.2.2.2.2,h.ap⟩
end
def UO(B g:Nat)(s:Y_)(i:Nat)(d:Bool)(r:aK × List Pu.aJ)(w:W_)(e:Ending)(w':W_):Prop:=
 ∃v vp qs,e=.returned v/\Pm w' v r.1/\Rk B w w'/\Rd B g s i r.2 d vp qs w'
theorem Si(B g i:Nat)(s:Y_)(ps:List Pu.aJ)(d:Bool)(vp:V_)(qs:List (Pu.aJ × V_))(va vb:V_)(a b:aK)(w:W_)(h:Rd B g s i ps d vp qs w)(hok:jh ps)(hl:ps.length<=1000)(ha:Pm w va a)(D:Pm w vb b)(oa:nO ps.length a)(ob:nO ps.length b) :
  Calls prog 156 #[p_ g,va,vb] w (UO B g s i d (xZ a b ps) w):=by
 obtain⟨n,nf,q,al,nl,cl,rfl,H,J⟩:=ha;obtain⟨bf,mf,df,p,t,r,rfl,K,L⟩:=D;have la:=oa.1.len;have la':=oa.2.len;have lb:=ob.1.len;have lb':=ob.2.len;have S:=bL oa;have U:=bL ob;clear oa ob;obtain⟨ea,aP,A⟩:=a;obtain⟨eb,aQ,C⟩:=b;simp only at H J K L la la' lb lb';have X:=h.lt;have k:=bL (zC w 127 [.bool ea,.slice n nf q,.slice al nl cl] [.bool eb,.slice bf mf df,.slice p t r] [.bool false,n_,n_]);have f:Hid (B_ w (((w.alloc (c_ #[.bool ea,.slice n nf q,.slice al nl cl] 127)).alloc (c_ #[.bool eb,.slice bf mf df,.slice p t r] 127)).alloc (c_ #[.bool false,n_,n_] 127))):=(((Br_ w.heap.size w).alloc dF _).alloc i_ _).alloc (by simp;omega) _;have Q:=bL (h.below f.o);have E:=bL (H.below f.o);have F:=bL (J.below f.o);have G:=bL (K.below f.o);have I:=bL (L.below f.o);have V:=bL hok;have R:Hid (Rk B w (((w.alloc (c_ #[.bool ea,.slice n nf q,.slice al nl cl] 127)).alloc (c_ #[.bool eb,.slice bf mf df,.slice p t r] 127)).alloc (c_ #[.bool false,n_,n_] 127))):=.below X f.o;have l:=bQ 2 k.o.1 rfl;have O:=bQ 1 k.o.2.1 rfl;clear h hok H J K L f;go_in;go_wp2_with fail;generalize ((w.alloc (c_ #[.bool ea,.slice n nf q,.slice al nl cl] 127)).alloc (c_ #[.bool eb,.slice bf mf df,.slice p t r] 127)).alloc (c_ #[.bool false,n_,n_] 127)=W0 at *;refine (Pb B g i s ps d vp qs _ _ A aQ W0 Q.o V.o hl F.o G.o S.o.2 U.o.1).mono ?_;clear l O;rintro e H ⟨rfl,QW,qs1,f,l⟩;have L:=bL (f.fB k.o.1 d_ d_);have N:=bL (f.fB k.o.2.1 d_ d_);have XR:=bL (f.fB k.o.2.2 d_ d_);have la1:=bP L.o;have lb1:=bP N.o;have lr1:=bP XR.o;have Y:Hid (∀c:Bool,IT B g s i d (Pu.leads A aQ ps) w w.heap.size (w.heap.size+1) (w.heap.size+1+1) H.heap.size ea eb c (.slice n nf q) (.slice al nl cl) (.slice bf mf df) (.slice p t r) (.slice n nf q) (.slice p t r) aP A aQ C aP C (H.alloc (c_ #[.bool c,.slice n nf q,.slice p t r] 127))):=fun c=>by have D:=(Br_ H.heap.size H).alloc dF (c_ #[.bool c,.slice n nf q,.slice p t r] 127);exact⟨bO L.o D la1,bO N.o D lb1,bO XR.o D lr1,hn_ _ _,(f.jK E.o).below D,(f.jK F.o).below D,(f.jK G.o).below D,(f.jK I.o).below D,(f.jK E.o).below D,(f.jK I.o).below D,⟨QW,qs1,l.below D⟩,(R.o.trans f).trans (.below l.lt D),o_,o_,o_,o_,o_,X⟩
 clear k Q E F G I V R f l S U;have U:=bQ 0 L.o rfl;have x1:=bQ 1 L.o rfl;have I:=bQ 0 N.o rfl;have V:=bQ 2 N.o rfl;cases ea
 .cases eb;all_goals
   go_upto_region 3 with (fail);have k:=bL (Y.o false);clear Y U x1 I V L N XR;generalize H.alloc (c_ #[.bool false,.slice n nf q,.slice p t r] 127)=Z at *;generalize H.heap.size=gW at *;have U:=bQ 0 k.o.a rfl;go_upto_region 5 with (fail);clear U;have I:=bQ 0 k.o.b rfl
  .go_upto_region 7 with (fail);clear I;have aW:=bQ 0 k.o.m rfl;have q1:=bQ 1 k.o.m rfl;have q2:=bQ 2 k.o.m rfl;have z0:=bQ 0 k.o.r rfl;have f0:=bM k.o.r 0;have z1:=bQ 1 k.o.r rfl;have f1:=bM k.o.r 1;have z2:=bQ 2 k.o.r rfl;have f2:=bM k.o.r 2;go_wp2;have l:=jg Z (w.heap.size+1+1) (.bool false) (.slice n nf q) (.slice p t r);have O:=jE k.o.r (.bool false) (.slice n nf q) (.slice p t r);have Q:=oC O;obtain⟨S,R,G⟩:=k.o.rd;refine br_ (v:=.agg #[.bool false,.slice n nf q,.slice p t r]) (by simp[results,results156,asAddr,Q]) rfl ?_;exact⟨_,_,_,rfl,⟨_,_,_,_,_,_,rfl,dM k.o.nf k.o.r d_ l,dM k.o.nl k.o.r d_ l⟩,k.o.rk.fresh l k.o.ap.2.2.2.2.1 X,G.yQ k.o.r d_ d_ d_ l⟩
  .have l:=bQ 2 k.o.a rfl;have V:=bQ 2 k.o.b rfl;go_wp2_with fail;refine (qh _ _ A C Z k.o.nla k.o.nlb o_ o_).mono ?_;clear I l V;rintro e w5 ⟨u1,rfl,l,f⟩;obtain⟨E,F,rfl,_,_⟩:=eO f;have O:Hid (fe w5 (.slice E (Pu.un A C).length F) (Pu.un A C)):=dH f (zl_ _);have G:=bL (k.o.below l);clear l f k;have Q:=bQ 2 G.o.m rfl;have l:=bM G.o.m 2;go_upto_region 7 with (fail);have f:=bL (G.o.last O.o);clear G O Q l;generalize w5.setCell (a_ gW 2) (.slice E (Pu.un A C).length F)=W6 at *;have aW:=bQ 0 f.o.m rfl;have q1:=bQ 1 f.o.m rfl;have q2:=bQ 2 f.o.m rfl;have z0:=bQ 0 f.o.r rfl;have f0:=bM f.o.r 0;have z1:=bQ 1 f.o.r rfl;have f1:=bM f.o.r 1;have z2:=bQ 2 f.o.r rfl;have f2:=bM f.o.r 2;go_wp2;have l:=jg W6 (w.heap.size+1+1) (.bool false) (.slice n nf q) (.slice E (Pu.un A C).length F);have O:=jE f.o.r (.bool false) (.slice n nf q) (.slice E (Pu.un A C).length F);have Q:=oC O;obtain⟨S,R,G⟩:=f.o.rd;refine br_ (v:=.agg #[.bool false,.slice n nf q,.slice E (Pu.un A C).length F]) (by simp[results,results156,asAddr,Q]) rfl ?_;exact⟨_,_,_,rfl,⟨_,_,_,_,_,_,rfl,dM f.o.nf f.o.r d_ l,dM f.o.nl f.o.r d_ l⟩,f.o.rk.fresh l f.o.ap.2.2.2.2.1 X,G.yQ f.o.r d_ d_ d_ l⟩
 .cases eb;focus
   go_upto_region 3 with (fail);have k:=bL (Y.o false);clear Y U x1 I V L N XR;generalize H.alloc (c_ #[.bool false,.slice n nf q,.slice p t r] 127)=Z at *
  rotate_left;focus
   go_upto_region 3 with (fail);have k:=bL (Y.o true);clear Y U x1 I V L N XR;generalize H.alloc (c_ #[.bool true,.slice n nf q,.slice p t r] 127)=Z at *
  rotate_left;all_goals
   generalize H.heap.size=gW at *;have U:=bQ 0 k.o.a rfl;have x1:=bQ 1 k.o.a rfl;have O:=bQ 1 k.o.b rfl;go_wp2_with fail;refine (qh _ _ aP aQ Z k.o.nfa k.o.nfb o_ o_).mono ?_;clear U x1 O;rintro e w3 ⟨u0,rfl,l,f⟩;obtain⟨J,K,rfl,_,_⟩:=eO f;have F:Hid (fe w3 (.slice J (Pu.un aP aQ).length K) (Pu.un aP aQ)):=dH f (zl_ _);have E:=bL (k.o.below l);clear l f k;have l:=bQ 1 E.o.m rfl;have f:=bM E.o.m 1;go_upto_region 5 with (fail);have k:=bL (E.o.first F.o);clear E F l f;generalize w3.setCell (a_ gW 1) (.slice J (Pu.un aP aQ).length K)=W4 at *;have I:=bQ 0 k.o.b rfl
  .go_upto_region 7 with (fail);clear I;have aW:=bQ 0 k.o.m rfl;have q1:=bQ 1 k.o.m rfl;have q2:=bQ 2 k.o.m rfl;have z0:=bQ 0 k.o.r rfl;have f0:=bM k.o.r 0;have z1:=bQ 1 k.o.r rfl;have f1:=bM k.o.r 1;have z2:=bQ 2 k.o.r rfl;have f2:=bM k.o.r 2;go_wp2;have l:=jg W4 (w.heap.size+1+1) (.bool false) (.slice J (Pu.un aP aQ).length K) (.slice p t r);have O:=jE k.o.r (.bool false) (.slice J (Pu.un aP aQ).length K) (.slice p t r);have Q:=oC O;obtain⟨S,R,G⟩:=k.o.rd;refine br_ (v:=.agg #[.bool false,.slice J (Pu.un aP aQ).length K,.slice p t r]) (by simp[results,results156,asAddr,Q]) rfl ?_;exact⟨_,_,_,rfl,⟨_,_,_,_,_,_,rfl,dM k.o.nf k.o.r d_ l,dM k.o.nl k.o.r d_ l⟩,k.o.rk.fresh l k.o.ap.2.2.2.2.1 X,G.yQ k.o.r d_ d_ d_ l⟩
  .have l:=bQ 2 k.o.a rfl;have V:=bQ 2 k.o.b rfl;go_wp2_with fail;refine (qh _ _ A C W4 k.o.nla k.o.nlb o_ o_).mono ?_;clear I l V;rintro e w5 ⟨u1,rfl,l,f⟩;obtain⟨E,F,rfl,_,_⟩:=eO f;have O:Hid (fe w5 (.slice E (Pu.un A C).length F) (Pu.un A C)):=dH f (zl_ _);have G:=bL (k.o.below l);clear l f k;have Q:=bQ 2 G.o.m rfl;have l:=bM G.o.m 2;go_upto_region 7 with (fail);have f:=bL (G.o.last O.o);clear G O Q l;generalize w5.setCell (a_ gW 2) (.slice E (Pu.un A C).length F)=W6 at *;have aW:=bQ 0 f.o.m rfl;have q1:=bQ 1 f.o.m rfl;have q2:=bQ 2 f.o.m rfl;have z0:=bQ 0 f.o.r rfl;have f0:=bM f.o.r 0;have z1:=bQ 1 f.o.r rfl;have f1:=bM f.o.r 1;have z2:=bQ 2 f.o.r rfl;have f2:=bM f.o.r 2;go_wp2;have l:=jg W6 (w.heap.size+1+1) (.bool true) (.slice J (Pu.un aP aQ).length K) (.slice E (Pu.un A C).length F);have O:=jE f.o.r (.bool true) (.slice J (Pu.un aP aQ).length K) (.slice E (Pu.un A C).length F);have Q:=oC O;obtain⟨S,R,G⟩:=f.o.rd;refine br_ (v:=.agg #[.bool true,.slice J (Pu.un aP aQ).length K,.slice E (Pu.un A C).length F]) (by simp[results,results156,asAddr,Q]) rfl ?_;exact⟨_,_,_,rfl,⟨_,_,_,_,_,_,rfl,dM f.o.nf f.o.r d_ l,dM f.o.nl f.o.r d_ l⟩,f.o.rk.fresh l f.o.ap.2.2.2.2.1 X,G.yQ f.o.r d_ d_ d_ l⟩
theorem Mk(B g i:Nat)(s:Y_)(ps:List Pu.aJ)(d:Bool)(vp:V_)(qs:List (Pu.aJ × V_))(Y:V_)(a:aK)(b:Int)(w:W_)(h:Rd B g s i ps d vp qs w)(C:jh ps)(hl:ps.length<=1000)(ha:Pm w Y a)(X:nO ps.length a)(hs:b=42\/b=43\/b=63) :
  Calls prog 162 #[p_ g,Y,I_ b] w (UO B g s i d (Pu.repeated a b ps) w):=by
 obtain⟨k,nf,n,l,q,p,rfl,t,A⟩:=ha;have L:=bL X;clear X;obtain⟨ea,aP,U⟩:=a;simp only at t A;have H:=h.lt;have f:=bL (DJ w 127 [.bool ea,.slice k nf n,.slice l q p] [.bool false,n_,n_]);have r:Hid (B_ w ((w.alloc (c_ #[.bool ea,.slice k nf n,.slice l q p] 127)).alloc (c_ #[.bool false,n_,n_] 127))):=((Br_ w.heap.size w).alloc dF _).alloc i_ _;have I:=bL (h.below r.o);have E:=bL (t.below r.o);have F:=bL (A.below r.o);have V:=bL C;have J:Hid (Rk B w ((w.alloc (c_ #[.bool ea,.slice k nf n,.slice l q p] 127)).alloc (c_ #[.bool false,n_,n_] 127))):=.below H r.o;clear h C t A r;by_cases A:b=63;subst A;rotate_left;have n63:(b != 63)=true:=by simpa using A
 have R:=bQ 1 f.o.1 rfl;have S:=bQ 2 f.o.1 rfl;rotate_left;all_goals
  go_in
 focus go_upto_region 3 with (fail)
 rotate_left;focus go_wp2_with fail
 rotate_left;all_goals
  generalize (w.alloc (c_ #[.bool ea,.slice k nf n,.slice l q p] 127)).alloc (c_ #[.bool false,n_,n_] 127)=N at *
 .have x0:=bQ 0 f.o.1 rfl;have R:=bQ 1 f.o.1 rfl;have S:=bQ 2 f.o.1 rfl;have z0:=bQ 0 f.o.2 rfl;have z1:=bQ 1 f.o.2 rfl;have z2:=bQ 2 f.o.2 rfl;have f0:=bM f.o.2 0;have f1:=bM f.o.2 1;have f2:=bM f.o.2 2;have t:=jg N (w.heap.size+1) (.bool true) (.slice k nf n) (.slice l q p);have r:=jE f.o.2 (.bool true) (.slice k nf n) (.slice l q p);have D:=oC r;have K:Hid (UO B g s i d (Pu.repeated ⟨ea,aP,U⟩ 63 ps) w (.returned (.agg #[.bool true,.slice k nf n,.slice l q p])) (((N.setCell (a_ (w.heap.size+1) 0) (.bool true)).setCell (a_ (w.heap.size+1) 1) (.slice k nf n)).setCell (a_ (w.heap.size+1) 2) (.slice l q p))):=
   ⟨_,_,_,rfl,⟨_,_,_,_,_,_,by simp[Pu.repeated],dM E.o f.o.2 d_ t,dM F.o f.o.2 d_ t⟩,J.o.fresh t o_ H,by
    have:=I.o.yQ f.o.2 d_ d_ d_ t;simpa [Pu.repeated]using this⟩
  clear t r;cases ea;all_goals
   go_wp2;exact br_ (v:=.agg #[.bool true,.slice k nf n,.slice l q p]) (by simp[results,results162,asAddr,D]) rfl K.o
 .refine (Pb B g i s ps d vp qs _ _ U aP N I.o V.o hl F.o E.o L.o.2 L.o.1).mono ?_;clear R S;rintro e G ⟨rfl,QW,Q,t,D⟩;have O:=bL (t.fB f.o.1 d_ d_);have r:=bL (t.fB f.o.2 d_ d_);have N1:=bL (t.jK E.o);have N2:=bL (t.jK F.o);have R1:=bL D;have Z:=bL (J.o.trans t);clear f I E F V J t D L;have x0:=bQ 0 O.o rfl;have R:=bQ 1 O.o rfl;have S:=bQ 2 O.o rfl;have z0:=bQ 0 r.o rfl;have z1:=bQ 1 r.o rfl;have z2:=bQ 2 r.o rfl;have f0:=bM r.o 0;have f1:=bM r.o 1;have f2:=bM r.o 2;have K:Hid (∀c:Bool,c=(ea || decide (b≠43))->(loadVar 127 (a_ (w.heap.size+1) 0)).run prog (((G.setCell (a_ (w.heap.size+1) 0) (.bool c)).setCell (a_ (w.heap.size+1) 1) (.slice k nf n)).setCell (a_ (w.heap.size+1) 2) (.slice l q p))=.ok (.agg #[.bool c,.slice k nf n,.slice l q p]) (((G.setCell (a_ (w.heap.size+1) 0) (.bool c)).setCell (a_ (w.heap.size+1) 1) (.slice k nf n)).setCell (a_ (w.heap.size+1) 2) (.slice l q p))/\UO B g s i d (Pu.repeated ⟨ea,aP,U⟩ b ps) w (.returned (.agg #[.bool c,.slice k nf n,.slice l q p])) (((G.setCell (a_ (w.heap.size+1) 0) (.bool c)).setCell (a_ (w.heap.size+1) 1) (.slice k nf n)).setCell (a_ (w.heap.size+1) 2) (.slice l q p))):=fun c hc=>by have t:=jg G (w.heap.size+1) (.bool c) (.slice k nf n) (.slice l q p);refine⟨oC (jE r.o _ _ _),_,QW,Q,rfl,⟨_,_,_,_,_,_,by rw[hc];rfl,dM N1.o r.o d_ t,dM N2.o r.o d_ t⟩,Z.o.fresh t o_ H,?_⟩;have:=R1.o.yQ r.o d_ d_ d_ t;unfold Pu.repeated;simp only[A,if_false];exact this
  have t:b=42\/b=43:=o_;rcases t with rfl | rfl;all_goals
   cases ea;all_goals
    go_wp2;obtain⟨D,rt⟩:=K.o _ rfl;exact br_ (by simp[results,results162,asAddr];first | exact D | (simp at D;exact D)) rfl rt
namespace Pu
theorem P.le{s:Y_}{t:aH}{i j:Nat}{a:aM}{D:Bool}(h:P s t i j a D)(b:i<=s.size)(w:Int)(f:Nst s t i w):j<=s.size:=(h.goes w 0 0 (Int.le_refl _) f).le.2 b
theorem aI.le{s:Y_}{t:aG}{i k:Nat}(h:aI s t i k)(a:i<=s.size)(w:Int)(b:Fst s t i w):k<=s.size:=by obtain⟨r,g,_⟩:=h.jF a w 0 0 (Int.le_refl _) b;exact g.le.2 a
end Pu
def vz(B g:Nat)(s:Y_)(i:Nat)(nt:aH)(nf:aG)(d:Bool)(ps:List Pu.aJ)(w:W_)(e:Ending)(w':W_):Prop:=
 (∃j a D v vp qs,Pu.P s nt i j a D/\e=.returned (.tuple #[v,.bool true])/\Pm w' v (Pu.part a ps).1/\Rk B w w'/\Rd B g s j (Pu.part a ps).2 (d || D) vp qs w')\/
 (∃k a b d' v vp qs,aI s nf i k/\e=.returned (.tuple #[v,.bool false])/\Pm w' v a/\nO b.length a/\jh b/\(ps.length<=b.length/\b.length<=k)/\Rk B w w'/\Rd B g s k b d' vp qs w')
theorem Lh{v:V_}{a:aK}(rk:Rk B w W)(C:Rd B g s j ps d vp qs W)(p:dh W gR 127 [x,y,z])(A:w.heap.size<=gR)(q:B<=w.heap.size)(pm:Pm W v a) :
  ∃b nf h f l k,v=.agg #[.bool a.empty,.slice b nf h,.slice f l k]/\
   (loadVar 127 (a_ gR 0)).run prog (((W.setCell (a_ gR 0) (.bool a.empty)).setCell (a_ gR 1) (.slice b nf h)).setCell (a_ gR 2) (.slice f l k))=.ok v (((W.setCell (a_ gR 0) (.bool a.empty)).setCell (a_ gR 1) (.slice b nf h)).setCell (a_ gR 2) (.slice f l k))/\
   Pm (((W.setCell (a_ gR 0) (.bool a.empty)).setCell (a_ gR 1) (.slice b nf h)).setCell (a_ gR 2) (.slice f l k)) v a/\
   Rk B w (((W.setCell (a_ gR 0) (.bool a.empty)).setCell (a_ gR 1) (.slice b nf h)).setCell (a_ gR 2) (.slice f l k))/\
   Rd B g s j ps d vp qs (((W.setCell (a_ gR 0) (.bool a.empty)).setCell (a_ gR 1) (.slice b nf h)).setCell (a_ gR 2) (.slice f l k)):=by
 obtain⟨b,nf,h,f,l,k,rfl,r,t⟩:=pm;have n:=jg W gR (.bool a.empty) (.slice b nf h) (.slice f l k);exact⟨b,nf,h,f,l,k,rfl,oC (jE p _ _ _),⟨_,_,_,_,_,_,rfl,dM r p d_ n,dM t p d_ n⟩,rk.fresh n A q,C.yQ p d_ d_ d_ n⟩
def ptZ:aK:=⟨false,[],[]⟩
theorem Me(n:Nat):nO n ptZ:=⟨.nil _,.nil _⟩
theorem Mc(W:W_):Pm W (.agg #[.bool false,n_,n_]) ptZ:=⟨_,_,_,_,_,_,rfl,fe.nil _,fe.nil _⟩
theorem Og(B g i:Nat)(s:Y_)(ps:List Pu.aJ)(d:Bool)(vp:V_)(qs:List (Pu.aJ × V_))(w:W_)(h:Rd B g s i ps d vp qs w)(t:jh ps)(hl:ps.length<=i)(hi:i<=s.size)(hs:s.size<=400)(q:Pu.dN s i=92) :
  Calls prog 164 #[p_ g] w (vz B g s i .atom .atom d ps w):=by
 have E:=h.lt;have p:Hid (dh (w.alloc (c_ #[.bool false,n_,n_] 127)) w.heap.size 127 [.bool false,n_,n_]):=hn_ _ _;have k:=bL (h.below ((Br_ w.heap.size w).alloc dF (c_ #[.bool false,n_,n_] 127)));have n:Hid (Rk B w (w.alloc (c_ #[.bool false,n_,n_] 127))):=.alloc E _;have Z:=bL t;clear h t;by_cases r:gZ (Pu.dN s (i+1));obtain⟨v,A⟩:=r.xC;have H:Hid (Pu.P s .atom i (i+2) (.pl (jH v)) false):=.xC q A;have a:=bL (fun f (b:Rb f g s i vp d)=>Jv g i s vp d v f b o_ q A);clear r A q;rotate_left;have H:Hid (aI s .atom i (i+1)):=.xC q r;have a:=bL (fun f (b:Rb f g s i vp d)=>Ju g i s vp d f b o_ q r);clear r q;rotate_left;all_goals
  go_in;go_wp2_with fail;generalize w.alloc (c_ #[.bool false,n_,n_] 127)=W0 at *;refine (a.o W0 k.o.rb).mono ?_;clear a;rintro e f ⟨rfl,b,l⟩;have C:=bL (k.o.fD b l);have F:=bL (n.o.trans (k.o.rk b));have a:=bL ((k.o.rk b).fB p.o d_ d_);clear b l k n p
 .go_wp2_with fail;refine (GI v f).mono ?_;rintro e w2 ⟨rfl,b⟩;have L:=bL (C.o.below b);have K:=bL (F.o.trans (.below C.o.lt b));have N:=bL (bO a.o b (bP a.o));clear b C F a;go_wp2_with fail;refine (AV B g (i+2) s ps d vp qs (jH v) w2 L.o o_).mono ?_;intro e w3 U;obtain⟨v3,Ux,ZE,rfl,A,J,X⟩:=U.pm;have Y:=bL (K.o.trans J);have k:=bL (J.fB N.o d_ d_);have z0:=bQ 0 k.o rfl;have z1:=bQ 1 k.o rfl;have z2:=bQ 2 k.o rfl;have f0:=bM k.o 0;have f1:=bM k.o 1;have f2:=bM k.o 2;obtain⟨O,nf,R,Q,V,S,rfl,D,l,p,n⟩:=Lh Y.o X k.o dF E A;have b:=bL l;have I:=bL n;have G:=bL p;clear U A J X L K N l p n;go_wp2;refine br_ (v:=.tuple #[.agg #[.bool (Pu.xB (jH v) ps).1.empty,.slice O nf R,.slice Q V S],.bool true]) (by simp[results,results164,asAddr,Result.andThen,D]) rfl ?_;exact .inl ⟨i+2,_,false,_,_,_,H.o,rfl,b.o,G.o,by rw[Bool.or_false];exact I.o⟩
 .have z0:=bQ 0 a.o rfl;have z1:=bQ 1 a.o rfl;have z2:=bQ 2 a.o rfl;have f0:=bM a.o 0;have f1:=bM a.o 1;have f2:=bM a.o 2;obtain⟨O,nf,R,Q,V,S,A,D,l,p,n⟩:=Lh F.o C.o a.o dF E (Mc f);cases A;simp only[show ptZ.empty=false from rfl]at D l p n;have b:=bL l;have I:=bL n;have G:=bL p;clear l p n;go_wp2;refine br_ (v:=.tuple #[.agg #[.bool false,n_,n_],.bool false]) (by simp[results,results164,asAddr,Result.andThen,D]) rfl ?_;exact .inr ⟨i+1,ptZ,ps,d,_,_,_,H.o,rfl,b.o,Me _,Z.o,⟨dF,o_⟩,G.o,I.o⟩
theorem Dg:∀(a:List V_) (o:Nat) (W:W_),W.grownBy (W.setCells g o a) (some g):=by
 intro a;induction a with
 | nil=>intro o W;exact World.grownBy.refl _ _
 | cons v a b=>intro o W;exact (gs_ W g o v).trans (b (o+1) _)
structure CT(B g:Nat)(s:Y_)(j:Nat)(ps:List Pu.aJ)(d:Bool)(vp:V_)(qs:List (Pu.aJ × V_))(w:W_)(gR gT:Nat)(T:Nat->Bool)(W:W_):Prop where
 rd:Rd B g s j ps d vp qs W
 rk:Rk B w W
 r:dh W gR 127 [.bool false,n_,n_]
 t:dh W gT 246 (dD T)
 ap:w.heap.size<=gR/\w.heap.size<=gT/\B<=w.heap.size
section
variable {B g j j':Nat} {s:Y_} {ps:List Pu.aJ} {d d':Bool} {vp:V_} {qs:List (Pu.aJ × V_)} {w:W_} {gR gT:Nat} {T:Nat->Bool} {W W':W_}
theorem CT.below(h:CT B g s j ps d vp qs w gR gT T W)(a:B_ W W'):CT B g s j ps d vp qs w gR gT T W':=
 ⟨h.rd.below a,h.rk.trans (.below h.rd.lt a),bO h.r a (bP h.r),bO h.t a (bP h.t),h.ap⟩
theorem CT.fD(h:CT B g s j ps d vp qs w gR gT T W)(a:W.grownBy W' (some g))(b:Rb W' g s j' vp d'):CT B g s j' ps d' vp qs w gR gT T W':=
 ⟨h.rd.fD a b,h.rk.trans (h.rd.rk a),(h.rd.rk a).fB h.r d_ d_,(h.rd.rk a).fB h.t d_ d_,h.ap⟩
theorem CT.bits(h:CT B g s j ps d vp qs w gR gT T W)(U:Nat->Bool):CT B g s j ps d vp qs w gR gT U (W.setCells gT 0 (dD U)):=by have a:=Dg (g:=gT) (dD U) 0 W;exact⟨h.rd.yQ h.t d_ d_ d_ a,h.rk.fresh a h.ap.2.1 h.ap.2.2,bR h.r a (fun e=>dI h.r h.t d_ (oi_ e)),uw h.t U,h.ap⟩
theorem CT.there(h:CT B g s j ps d vp qs w gR gT T W)(U:Nat->Bool):W.there gT 0 (dD U).toArray.size:=by have:=mq h.t;rw[cZ]at this;simpa [cZ]using this
end
theorem Rn(U:Nat->Bool):(prog.info? 246).map (·.size)=some (dD U).toArray.size:=by simp only[List.size_toArray,cZ];exact kW
theorem wZ{T:Nat->Bool}(h:dh W g 246 (dD T))(U:Nat->Bool):(storeCells (a_ g 0) (dD U)).run prog W=.ok () (W.setCells g 0 (dD U)):=by have b:=mq h;rw[cZ]at b;have:=run_storeCells_cells (P:=prog) g 0 (dD U) 0 W (fun j a=>by rw[cZ]at a;simpa using (b j a).1) (fun j a=>by rw[cZ]at a;simpa using (b j a).2) (fun v a=>qQ U v a);exact this
def UJ(B g:Nat)(s:Y_)(b:Nat)(a:Bool)(d:Bool)(ps:List Pu.aJ)(w:W_)(e:Ending)(w':W_):Prop:=
 (∃k T D v vp qs,aj s b Pu.dW false k T D/\e=.returned (.tuple #[v,.bool true])/\Pm w' v (Pu.xB (if a then nL T else T) ps).1/\Rk B w w'/\Rd B g s k (Pu.xB (if a then nL T else T) ps).2 (d || D) vp qs w')\/
 (∃k d' v vp qs,UD s b k/\e=.returned (.tuple #[v,.bool false])/\Pm w' v ptZ/\Rk B w w'/\Rd B g s k ps d' vp qs w')
theorem Ws(B g i:Nat)(s:Y_)(ps:List Pu.aJ)(d:Bool)(vp:V_)(qs:List (Pu.aJ × V_))(w:W_)(J:Bool)(H:J=decide (Pu.dN s i=94))(h:Rd B g s i ps d vp qs w)(hl:ps.length<=i)(hi:i<=s.size)(hs:s.size<=400) :
  Calls prog 166 #[p_ g] w (UJ B g s (if Pu.dN s i=94 then i+1 else i) J d ps w):=by
 have BL:=h.lt;obtain⟨f,a⟩:∃f,f=Pu.dW:=⟨_,rfl⟩;have l:=wH;rw[<-a]at l;have HNB:=bL a;clear a;have j0l:(if Pu.dN s i=94 then i+1 else i)<=s.size:=by
  split
  .rename_i a;exact Pu.fK (s:=s) (i:=i) (by rw[a];decide)
  .exact hi
 have a:Hid (CT B g s i ps d vp qs w w.heap.size (w.heap.size+1) f ((w.alloc (c_ #[.bool false,n_,n_] 127)).alloc (c_ (dD f).toArray 246))):=by have k:=((Br_ w.heap.size w).alloc dF (c_ #[.bool false,n_,n_] 127)).alloc i_ (c_ (dD f).toArray 246);have b:=hn_ (w.alloc (c_ #[.bool false,n_,n_] 127)) (c_ (dD f).toArray 246);rw[wa_]at b;exact⟨h.below k,.below BL k,cO (hn_ w _) _,b,dF,o_,BL⟩
 have A:=bL (fun b (k:Rb b g s i vp d)=>pE g i s vp d 94 b k o_);rw[<-H]at A;generalize (if Pu.dN s i=94 then i+1 else i)=K at *;clear h H;go_in;have b:(storeCells (a_ (w.heap.size+1) 0) (dD f)).run prog ((w.alloc (c_ #[.bool false,n_,n_] 127)).alloc (c_ (dD f).toArray 246))=.ok () ((w.alloc (c_ #[.bool false,n_,n_] 127)).alloc (c_ (dD f).toArray 246)):=by have:=run_storeCells_new (P:=prog) (w.alloc (c_ #[.bool false,n_,n_] 127)) 246 (dD f).toArray (dD f).toArray (Rn f) rfl (oc_ (qQ f));rw[wa_]at this;exact this
 go_wp2_with fail;clear l b;have k:=a;clear a;generalize ((w.alloc (c_ #[.bool false,n_,n_] 127)).alloc (c_ (dD f).toArray 246))=W1 at *;generalize hgR:w.heap.size=gR at *;generalize hgT:gR+1=gT at *;refine (A.o W1 k.o.rd.rb).mono ?_;clear A;rintro e w2 ⟨rfl,a,b⟩;have l:=bL (k.o.fD a b);clear a b k;go_wp2_with fail;go_loopg [8] (s.size-K) (fun gk a b=>∃j T D,j<=s.size/\gk=s.size-j/\CT B g s j ps (d || D) vp qs w gR gT T b/\(∀k E C,aj s j T D k E C->aj s K Pu.dW false k E C)/\(∀k,UD s j k->UD s K k));exact⟨_,f,false,j0l,rfl,by rw[Bool.or_false];exact l.o,fun k E C F=>by rw[<-HNB.o];exact F,fun k F=>F⟩;clear l;obtain⟨j,T,D,jl,rfl,a,b,k⟩:=hrel;have IT:=bL (abx g j s vp (d || D) wr a.rd.rb jl o_);have Q:=bL a;have CC:=bL b;have CF:=bL k;clear a b k;go_wp2_with fail;refine IT.o.mono ?_;clear IT;rintro e w3 (⟨q,lo,a,r,l,rfl,n,p⟩ | ⟨q,x,y,l,rfl,n,p⟩)
 .have b:=bL (Q.o.fD n p);have G:=bL l;have j2l:=l.le;have jlt:=l.lt;clear n p Q l;go_wp2_with (refine wl_ rfl 246 (.tmp 4) rfl gT 0 rfl (dD T) _ (eQ b.o.t) underlying246 rfl (by rw[cZ];exact kW) ?_);refine (QI T lo a w3).mono ?_;rintro e w4 ⟨rfl,k⟩;have A:=bL (b.o.below k);clear k b;have b:=wZ A.o.t (Pu.wid T lo a);go_wp2_with fail;clear b;have L:=bL (A.o.bits (Pu.wid T lo a));clear A;generalize w4.setCells gT 0 (dD (Pu.wid T lo a))=W5 at *;have A:=bL (pE g q s vp ((d || D) || decide (a<lo)) 93 W5 L.o.rd.rb o_);by_cases b:Pu.dN s q=93;rw[if_pos b,dt_ b]at A;rotate_left;rw[if_neg b,dn_ b]at A;have C7:Hid (∀k E C,aj s q (Pu.wid T lo a) (D || decide (a<lo)) k E C->aj s K Pu.dW false k E C):=fun k E C F=>CC.o _ _ _ (.more G.o b F);have F7:Hid (∀k,UD s q k->UD s K k):=fun k F=>CF.o _ (.more G.o b F);rotate_left;all_goals
   refine A.o.mono ?_;clear A;rintro e w6 ⟨rfl,A,C⟩;have k:=bL (L.o.fD A C)
  have CL:Hid (aj s K Pu.dW false (q+1) (Pu.wid T lo a) (D || decide (a<lo))):=CC.o _ _ _ (.done G.o b);rotate_left;rotate_left;all_goals
   have DD:Hid (((d || D) || decide (a<lo))=(d || (D || decide (a<lo)))):=Bool.or_assoc _ _ _;clear A C L G b
  .cases J with
   | false=>?_
   | true=>?_
   all_goals
    go_wp2_with (refine wl_ rfl 246 (.tmp 4) rfl gT 0 rfl (dD (Pu.wid T lo a)) _ (eQ k.o.t) underlying246 rfl (by rw[cZ];exact kW) ?_)
   refine (AV B g (q+1) s ps _ vp qs (Pu.wid T lo a) w6 k.o.rd o_).mono ?_;intro e w7 N;obtain⟨v7,vp7,qs7,rfl,t,I,O⟩:=N.pm;have G:=bL (I.fB k.o.r d_ d_);rotate_left;focus
    refine (Ff (Pu.wid T lo a) w6).mono ?_;rintro e w61 ⟨rfl,b⟩;have A:=bL (k.o.below b);clear b k;have b:=wZ A.o.t (nL (Pu.wid T lo a));go_upto_region 10 with (fail);clear b;have b:=bL (A.o.bits (nL (Pu.wid T lo a)));clear A;generalize w61.setCells gT 0 (dD (nL (Pu.wid T lo a)))=W62 at *;go_wp2_with (refine wl_ rfl 246 (.tmp 4) rfl gT 0 rfl (dD (nL (Pu.wid T lo a))) _ (eQ b.o.t) underlying246 rfl (by rw[cZ];exact kW) ?_);refine (AV B g (q+1) s ps _ vp qs (nL (Pu.wid T lo a)) W62 b.o.rd o_).mono ?_;intro e w7 N;obtain⟨v7,vp7,qs7,rfl,t,I,O⟩:=N.pm;have G:=bL (I.fB b.o.r d_ d_)
   rotate_left;all_goals
    have z0:=bQ 0 G.o rfl;have z1:=bQ 1 G.o rfl;have z2:=bQ 2 G.o rfl;have f0:=bM G.o 0;have f1:=bM G.o 1;have f2:=bM G.o 2
   focus
    obtain⟨U,nf,X,V,Z,Y,rfl,L,A,E,C⟩:=Lh (k.o.rk.trans I) O G.o k.o.ap.1 k.o.ap.2.2 t;have F:=bL A;have S:=bL C;have R:=bL E;clear N t I O k A E C;go_wp2;refine br_ (v:=.tuple #[.agg #[.bool (Pu.xB (Pu.wid T lo a) ps).1.empty,.slice U nf X,.slice V Z Y],.bool true]) (by simp[results,results166,asAddr,Result.andThen,L]) rfl ?_
   rotate_left;focus
    obtain⟨U,nf,X,V,Z,Y,rfl,L,A,E,C⟩:=Lh (b.o.rk.trans I) O G.o b.o.ap.1 b.o.ap.2.2 t;have F:=bL A;have S:=bL C;have R:=bL E;clear N t I O b A E C;go_wp2;refine br_ (v:=.tuple #[.agg #[.bool (Pu.xB (nL (Pu.wid T lo a)) ps).1.empty,.slice U nf X,.slice V Z Y],.bool true]) (by simp[results,results166,asAddr,Result.andThen,L]) rfl ?_
   all_goals
    exact .inl ⟨q+1,_,_,_,_,_,CL.o,rfl,F.o,R.o,by rw[<-DD.o];exact S.o⟩
  .go_wp2;go_roundg (s.size-q);exact⟨q,Pu.wid T lo a,D || decide (a<lo),j2l,rfl,by rw[<-DD.o];exact k.o,C7.o,F7.o⟩;omega
 .have b:=bL (Q.o.fD n p);have k:=bL (CF.o _ (.here l));clear n p Q l;have z0:=bQ 0 b.o.r rfl;have z1:=bQ 1 b.o.r rfl;have z2:=bQ 2 b.o.r rfl;have f0:=bM b.o.r 0;have f1:=bM b.o.r 1;have f2:=bM b.o.r 2;obtain⟨U,nf,X,V,Z,Y,G,L,A,E,C⟩:=Lh b.o.rk b.o.rd b.o.r b.o.ap.1 b.o.ap.2.2 (Mc w3);cases G;simp only[show ptZ.empty=false from rfl]at L A E C;have F:=bL A;have S:=bL C;have R:=bL E;clear A E C b;go_wp2;refine br_ (v:=.tuple #[.agg #[.bool false,n_,n_],.bool false]) (by simp[results,results166,asAddr,Result.andThen,L]) rfl ?_;exact .inr ⟨_,_,_,_,_,k.o,rfl,F.o,R.o,S.o⟩
def EX(f:Nat)(nt:aH)(nf:aG)(s:Y_)(i:Nat):Prop:=
 ∀(B g:Nat) (ps:List Pu.aJ) (d:Bool) (vp:V_) (qs:List (Pu.aJ × V_)) (w:W_),Rd B g s i ps d vp qs w->jh ps->ps.length<=i->C_ f #[p_ g] w (vz B g s i nt nf d ps w)
abbrev kG(W:W_)(g:Nat)(a b c:V_):W_:=((W.setCell (a_ g 0) a).setCell (a_ g 1) b).setCell (a_ g 2) c
theorem vz.fin{t r:W_}
  (h:vz B g s i nt nf d ps t e r) (O:dh t gR 127 [x,y,z]) (N:w.heap.size<=gR) (K:Rk B w t) (J:B<=w.heap.size) :
  ∃c b p l f q n ok,e=.returned (.tuple #[.agg #[.bool c,.slice b p l,.slice f q n],.bool ok])/\dh r gR 127 [x,y,z]/\
   (loadVar 127 (a_ gR 0)).run prog (kG r gR (.bool c) (.slice b p l) (.slice f q n))=.ok (.agg #[.bool c,.slice b p l,.slice f q n]) (kG r gR (.bool c) (.slice b p l) (.slice f q n))/\
   vz B g s i nt nf d ps w (.returned (.tuple #[.agg #[.bool c,.slice b p l,.slice f q n],.bool ok])) (kG r gR (.bool c) (.slice b p l) (.slice f q n)):=by
 rcases h with ⟨j,S,D,v,vp,qs,L,rfl,pm,rk,I⟩ | ⟨k,a,C,d',v,vp,qs,hF,rfl,pm,R,ok,Q,rk,I⟩;all_goals
  have A:=rk.fB O d_ d_;obtain⟨b,p,l,f,q,n,rfl,H,E,G,F⟩:=Lh (K.trans rk) I A N J pm
 .exact⟨_,b,p,l,f,q,n,true,rfl,A,H,.inl ⟨j,S,D,_,vp,qs,L,rfl,E,G,F⟩⟩
 .exact⟨_,b,p,l,f,q,n,false,rfl,A,H,.inr ⟨k,a,C,d',_,vp,qs,hF,rfl,E,R,ok,Q,G,F⟩⟩
theorem vz.yes{D:Bool}{n:aM}{c:Bool}{a b:Option Addr}{k f l h:Nat}
  (A:Pu.P s nt i j n D) (H:Rd B g s j (Pu.part n ps).2 (d || D) vp qs W) (pm:Pm W (.agg #[.bool c,.slice a k f,.slice b l h]) (Pu.part n ps).1) (F:dh W gR 127 [x,y,z]) (C:w.heap.size<=gR) (v:Rk B w W) (p:B<=w.heap.size) :
  (loadVar 127 (a_ gR 0)).run prog (kG W gR (.bool c) (.slice a k f) (.slice b l h))=.ok (.agg #[.bool c,.slice a k f,.slice b l h]) (kG W gR (.bool c) (.slice a k f) (.slice b l h))/\
   vz B g s i nt nf d ps w (.returned (.tuple #[.agg #[.bool c,.slice a k f,.slice b l h],.bool true])) (kG W gR (.bool c) (.slice a k f) (.slice b l h)):=by
 obtain⟨a,k,f,b,l,h,E,G,q,t,r⟩:=Lh v H F C p pm;cases E;exact⟨G,.inl ⟨j,n,D,_,vp,qs,A,rfl,q,t,r⟩⟩
theorem vz.no{k:Nat}{d':Bool}{a:List Pu.aJ}
  (hF:aI s nf i k) (A:Rd B g s k a d' vp qs W) (ok:jh a) (v:ps.length<=a.length/\a.length<=k) (r:dh W gR 127 [x,y,z]) (p:w.heap.size<=gR) (n:Rk B w W) (b:B<=w.heap.size) :
  (loadVar 127 (a_ gR 0)).run prog (kG W gR (.bool false) n_ n_)=.ok (.agg #[.bool false,n_,n_]) (kG W gR (.bool false) n_ n_)/\
   vz B g s i nt nf d ps w (.returned (.tuple #[.agg #[.bool false,n_,n_],.bool false])) (kG W gR (.bool false) n_ n_):=by
 obtain⟨C,G,E,D,H,F,q,t,f,l,h⟩:=Lh n A r p b (Mc W);cases q;exact⟨t,.inr ⟨k,ptZ,a,d',_,vp,qs,hF,rfl,f,Me _,ok,v,l,h⟩⟩
theorem Xf(B g i:Nat)(s:Y_)(ps:List Pu.aJ)(d:Bool)(vp:V_)(qs:List (Pu.aJ × V_))(w:W_)(PA:EX 141 .pa .pa s (i+1))(R9:Pu.dN s i=40)(h:Rd B g s (i+1) ps d vp qs w)(R:jh ps)(hl:ps.length<=i)(hs:s.size<=400) :
  Calls prog 165 #[p_ g] w (vz B g s i .atom .atom d ps w):=by
 have U:=h.lt;have i1:i+1<=s.size:=Pu.fK (s:=s) (i:=i) (by rw[R9];decide);have X:Hid (dh (w.alloc (c_ #[.bool false,n_,n_] 127)) w.heap.size 127 [.bool false,n_,n_]):=hn_ _ _;have H0:=bL (h.below ((Br_ w.heap.size w).alloc dF (c_ #[.bool false,n_,n_] 127)));have K0:Hid (Rk B w (w.alloc (c_ #[.bool false,n_,n_] 127))):=.alloc U _;have OK:=bL R;have I:=bL R9;clear h R R9;go_in;go_wp2_with fail;generalize w.alloc (c_ #[.bool false,n_,n_] 127)=W0 at *;refine (PA B g ps d vp qs W0 H0.o OK.o o_).mono ?_;rintro e H (⟨j,p,D,v,QW,qs1,b,rfl,pm,rk,S⟩ | ⟨k,a,ps',d',v,QW,qs1,hF,rfl,pm,oa,ok',lk,rk,S⟩);obtain⟨r,F,A,t,G,C,rfl,n1,Z⟩:=pm;have jl:j<=s.size:=b.le i1 2 (.inl ⟨trivial,.inl rfl⟩);have lv:=b.leaves;simp only[aH.lv]at lv;have Ng:=bL (AX p ps OK.o);have zT:=iC p ps;have E:=(Br_ H.heap.size H).alloc dF (c_ #[.bool (Pu.part p ps).1.empty,.slice r F A,.slice t G C] 127);rotate_left;obtain⟨r,F,A,t,G,C,rfl,n1,Z⟩:=pm;have Q:Hid (aI s .atom i k):=.Oz I.o hF;have E:=(Br_ H.heap.size H).alloc dF (c_ #[.bool a.empty,.slice r F A,.slice t G C] 127);rotate_left;all_goals
  have O:=bL (S.below E);have V:=bL ((K0.o.trans rk).trans (.below S.lt E));have n:=bL (bO (rk.fB X.o d_ d_) E (bP (rk.fB X.o d_ d_)))
 focus
  have J:Hid (Pm (H.alloc (c_ #[.bool (Pu.part p ps).1.empty,.slice r F A,.slice t G C] 127)) (.agg #[.bool (Pu.part p ps).1.empty,.slice r F A,.slice t G C]) (Pu.part p ps).1):=⟨_,_,_,_,_,_,rfl,n1.below E,Z.below E⟩;have K:Hid (dh (H.alloc (c_ #[.bool (Pu.part p ps).1.empty,.slice r F A,.slice t G C] 127)) H.heap.size 127 [.bool (Pu.part p ps).1.empty,.slice r F A,.slice t G C]):=hn_ _ _;have HP:=bL b;clear rk S n1 Z H0 K0 X E b;generalize (Pu.part p ps).1.empty=em at *;go_wp2_with fail
 rotate_left;focus
  clear rk S n1 Z H0 K0 X E hF;generalize a.empty=em at *;obtain⟨Y,b⟩:=vz.no (nt:=.atom) (d:=d) (ps:=ps) Q.o O.o ok' lk n.o dF V.o U;have b:=bL b;have z0:=bQ 0 n.o rfl;have z1:=bQ 1 n.o rfl;have z2:=bQ 2 n.o rfl;have f0:=bM n.o 0;have f1:=bM n.o 1;have f2:=bM n.o 2;go_upto_region 2 with (fail)
 rotate_left;all_goals
  generalize H.alloc (c_ #[.bool em,.slice r F A,.slice t G C] 127)=W2 at *
 .have L:=bL (pE g j s QW (d || D) 41 W2 O.o.rb o_);by_cases f:Pu.dN s j=41;rw[if_pos f,dt_ f]at L;have Q:Hid (Pu.P s .atom i (j+1) p D):=.Oz I.o HP.o f;rotate_left;rw[if_neg f,dn_ f]at L;have Q:Hid (aI s .atom i j):=.ajq I.o HP.o f;rotate_left;all_goals
   clear f;refine L.o.mono ?_;clear L;rintro e w3 ⟨rfl,q,N⟩;have l:=O.o.rk q;have R3:=bL (O.o.fD q N);have K3:=bL (V.o.trans l);have f:=bL (l.fB n.o d_ d_)
  have L:=bL (l.fB K.o d_ d_);have PM3:=bL (J.o.rk l);clear q N l O V n K J;obtain⟨Y,b⟩:=vz.yes (nf:=.atom) Q.o R3.o PM3.o f.o dF K3.o U;rotate_left;clear q N l O V n K J;obtain⟨Y,b⟩:=vz.no (nt:=.atom) (d:=d) (ps:=ps) Q.o R3.o Ng.o.2 ⟨o_,o_⟩ f.o dF K3.o U;rotate_left;all_goals
   have b:=bL b;have z0:=bQ 0 f.o rfl;have z1:=bQ 1 f.o rfl;have z2:=bQ 2 f.o rfl;have f0:=bM f.o 0;have f1:=bM f.o 1;have f2:=bM f.o 2
  have p0:=bQ 0 L.o rfl;have p1:=bQ 1 L.o rfl;have p2:=bQ 2 L.o rfl;rotate_left;all_goals
   go_wp2;exact br_ (by simp[results,results165,asAddr,Result.andThen,Y]) rfl b.o
 .go_wp2;exact br_ (by simp[results,results165,asAddr,Result.andThen,Y]) rfl b.o
namespace Pu
theorem SgF.ge(h:SgF s i j):i<=j:=by cases h <;> omega
theorem Zo.ge{s:Y_}{i j:Nat}(h:Zo s i j):i<=j:=by
 cases h with
 | one a=>exact a.ge
 | range a _ b=>have:=a.lt;have:=b.ge;omega
theorem UD.ge{s:Y_}{i k:Nat}(h:UD s i k):i<=k:=by
 induction h with
 | here a=>exact a.ge
 | more a _ _ b=>have:=a.lt;omega
end Pu
theorem UJ.ae2(p:Pu.dN s i=91)(n:jh ps)(q:ps.length<=i)
  (h:UJ B g s (if Pu.dN s (i+1)=94 then i+1+1 else i+1) (decide (Pu.dN s (i+1)=94)) d ps W e w'):vz B g s i .atom .atom d ps W e w':=by
 by_cases a:Pu.dN s (i+1)=94
 .rw [if_pos a,dt_ a]at h;rcases h with ⟨k,T,D,v,vp,qs,b,f,pm,rk,l⟩ | ⟨k,d',v,vp,qs,b,f,pm,rk,l⟩
  .exact .inl ⟨k,.pl (nL T),D,v,vp,qs,.yj p a b,f,pm,rk,l⟩
  .have:=b.ge;exact .inr ⟨k,ptZ,ps,d',v,vp,qs,.yj p a b,f,pm,Me _,n,⟨dF,o_⟩,rk,l⟩
 .rw [if_neg a,dn_ a]at h;rcases h with ⟨k,T,D,v,vp,qs,b,f,pm,rk,l⟩ | ⟨k,d',v,vp,qs,b,f,pm,rk,l⟩
  .exact .inl ⟨k,.pl T,D,v,vp,qs,.cls p a b,f,pm,rk,l⟩
  .have:=b.ge;exact .inr ⟨k,ptZ,ps,d',v,vp,qs,.cls p a b,f,pm,Me _,n,⟨dF,o_⟩,rk,l⟩
theorem Nv.ae2{T:Nat->Bool}(p:Pu.P s .atom i j (.pl T) false)(h:Nv B g s j d (Pu.xB T ps) W e w') :
  ∃c a l f b n k vp qs,e=.returned (.agg #[.bool c,.slice a l f,.slice b n k])/\Pm w' (.agg #[.bool c,.slice a l f,.slice b n k]) (Pu.part (.pl T) ps).1/\Rk B W w'/\Rd B g s j (Pu.part (.pl T) ps).2 (d || false) vp qs w'/\Pu.P s .atom i j (.pl T) false:=by
 obtain⟨v,vp,qs,rfl,pm,rk,r⟩:=h.pm;obtain⟨a,l,f,b,n,k,rfl,n1,q⟩:=pm;exact⟨_,a,l,f,b,n,k,vp,qs,rfl,⟨_,_,_,_,_,_,rfl,n1,q⟩,rk,by rw[Bool.or_false];exact r,p⟩
theorem NJ(s:Y_)(i:Nat)(PA:i<s.size->EX 141 .pa .pa s (i+1))(hi:i<=s.size)(hs:s.size<=400):EX 161 .atom .atom s i:=by
 intro B g ps d vp qs w h a V;have C:=h.lt;have l:Hid (dh (w.alloc (c_ #[.bool false,n_,n_] 127)) w.heap.size 127 [.bool false,n_,n_]):=hn_ _ _;have b:=bL (h.below ((Br_ w.heap.size w).alloc dF (c_ #[.bool false,n_,n_] 127)));have n:Hid (Rk B w (w.alloc (c_ #[.bool false,n_,n_] 127))):=.alloc C _;have L:=bL a;have PA:=bL PA;clear h a;go_enter func161,ntmps161;go_wp2_with fail;generalize w.alloc (c_ #[.bool false,n_,n_] 127)=W0 at *;refine (mK g i s vp d W0 b.o.rb).mono ?_;rintro e w1 ⟨rfl,a⟩;have f:=bL (b.o.below a);have q:=bL (n.o.trans (.below b.o.lt a));have k:=bL (bO l.o a (bP l.o));clear a b n l;obtain⟨b,a⟩:∃b,b=Pu.dN s i:=⟨_,rfl⟩;have D:=bL a;rw[<-a];clear a;go_wp2_with fail;refine (xL b w1).mono ?_;rintro e I ⟨rfl,a⟩;have t:=bL (f.o.below a);have K2:=bL (q.o.trans (.below f.o.lt a));have p:=bL (bO k.o a (bP k.o));clear a f q k;have gl:=bP p.o;by_cases f:fV b
 .rw [dt_ f];by_cases Z:b=92
  .subst Z;have a:=bL (Og B g i s ps d vp qs I t.o L.o V hi hs D.o.symm);clear f;go_wp2_with fail;refine a.o.mono ?_;clear a;intro e k l;obtain⟨c,Q,X,S,R,Y,U,ok,rfl,n,r,a⟩:=l.fin p.o dF K2.o C;have a:=bL a;clear l;have J:=bQ 0 n rfl;have K:=bQ 1 n rfl;have z2:=bQ 2 n rfl;have l:=bM n 0;have A:=bM n 1;have E:=bM n 2;clear n;go_wp2;exact br_ (by simp[results,results161,asAddr,Result.andThen,r]) rfl a.o
  .have e92:(b == 92)=false:=by simpa using Z
   have a:b≠-1:=by unfold fV at f;omega
   have ilt:i<s.size:=Pu.fK (s:=s) (i:=i) (by rw[<-D.o];exact a);have BEG:=bL f;have N92:=bL Z;clear f Z a;have c1:=bQ 1 t.o.rb rfl;have A:=bM t.o.rb 1;have wi:=kZ i;have a:=gs_ I g 1 (I_ ((i:Int)+1));have v:Hid (Rd B g s (i+1) ps d vp qs (I.setCell (a_ g 1) (I_ ((i:Int)+1)))):=t.o.fD a (t.o.rb.at (i+1));have F:=bL (K2.o.trans (t.o.rk a));have n:=bL ((t.o.rk a).fB p.o d_ d_);clear a;by_cases O:b=40
   .subst O;go_wp2_with fail;clear c1 A;generalize I.setCell (a_ g 1) (I_ ((i:Int)+1))=H at *;refine (Xf B g i s ps d vp qs H (PA.o ilt) D.o.symm v.o L.o V hs).mono ?_;intro e w4 l;obtain⟨c,Q,X,S,R,Y,U,ok,rfl,k,r,a⟩:=l.fin n.o dF F.o C;have a:=bL a;clear l;have J:=bQ 0 k rfl;have K:=bQ 1 k rfl;have z2:=bQ 2 k rfl;have l:=bM k 0;have A:=bM k 1;have E:=bM k 2;clear k;go_wp2;exact br_ (by simp[results,results161,asAddr,Result.andThen,r]) rfl a.o
   .have e40:(b == 40)=false:=by simpa using O
    by_cases N:b=91
    .subst N;go_wp2_with fail;clear c1 A;generalize I.setCell (a_ g 1) (I_ ((i:Int)+1))=H at *;refine (Ws B g (i+1) s ps d vp qs H _ rfl v.o o_ o_ hs).mono ?_;intro e w4 l;have l:=UJ.ae2 D.o.symm L.o V l;obtain⟨c,Q,X,S,R,Y,U,ok,rfl,k,r,a⟩:=l.fin n.o dF F.o C;have a:=bL a;clear l;have J:=bQ 0 k rfl;have K:=bQ 1 k rfl;have z2:=bQ 2 k rfl;have l:=bM k 0;have A:=bM k 1;have E:=bM k 2;clear k;go_wp2;exact br_ (by simp[results,results161,asAddr,Result.andThen,r]) rfl a.o
    .have e91:(b == 91)=false:=by simpa using N
     by_cases a:b=46;subst a;rotate_left;have e46:(b == 46)=false:=by simpa using a
     have G:Hid (Pu.P s .atom i (i+1) (.pl (jH b)) false):=by have e:=D.o;subst e;exact .U6 BEG.o N92.o O N a
     clear O N a;rotate_left;all_goals
      go_wp2_with fail;clear c1 A;generalize I.setCell (a_ g 1) (I_ ((i:Int)+1))=H at *
     focus
      refine (GI 10 H).mono ?_;rintro e w4 ⟨rfl,a⟩;have q:=bL (v.o.below a);have r:=bL (F.o.trans (.below v.o.lt a));have k:=bL (bO n.o a (bP n.o));clear a v F n;go_wp2_with fail;refine (Ff (jH 10) w4).mono ?_;rintro e w5 ⟨rfl,l⟩;have R5:=bL (q.o.below l);have K5:=bL (r.o.trans (.below q.o.lt l));have X5:=bL (bO k.o l (bP k.o));clear l q r k;go_wp2_with fail;refine (AV B g (i+1) s ps d vp qs (nL (jH 10)) w5 R5.o o_).mono ?_;intro e w6 l;obtain⟨c,Q,X,S,R,Y,U,vp6,qs6,rfl,k,E,K,G⟩:=l.ae2 (.any D.o.symm);have q:=E.fB X5.o d_ d_;obtain⟨r,a⟩:=vz.yes (nf:=.atom) G K k q dF (K5.o.trans E) C;have a:=bL a;clear l k E K G
     rotate_left;focus
      refine (GI b H).mono ?_;rintro e w5 ⟨rfl,l⟩;have R5:=bL (v.o.below l);have K5:=bL (F.o.trans (.below v.o.lt l));have X5:=bL (bO n.o l (bP n.o));clear l v F n;go_wp2_with fail;refine (AV B g (i+1) s ps d vp qs (jH b) w5 R5.o o_).mono ?_;intro e w6 l;obtain⟨c,Q,X,S,R,Y,U,vp6,qs6,rfl,k,E,K,J⟩:=l.ae2 G.o;have q:=E.fB X5.o d_ d_;obtain⟨r,a⟩:=vz.yes (nf:=.atom) J K k q dF (K5.o.trans E) C;have a:=bL a;clear l k E K J
     all_goals
      have J:=bQ 0 q rfl;have K:=bQ 1 q rfl;have z2:=bQ 2 q rfl;have l:=bM q 0;have A:=bM q 1;have E:=bM q 2;clear q;go_wp2;exact br_ (by simp[results,results161,asAddr,Result.andThen,r]) rfl a.o
 .rw [dn_ f];have G:Hid (aI s .atom i i):=.none (by rw[<-D.o];exact f);clear f;obtain⟨r,a⟩:=vz.no (nt:=.atom) (d:=d) (ps:=ps) G.o t.o L.o ⟨dF,V⟩ p.o dF K2.o C;have a:=bL a;have J:=bQ 0 p.o rfl;have K:=bQ 1 p.o rfl;have z2:=bQ 2 p.o rfl;have l:=bM p.o 0;have A:=bM p.o 1;have E:=bM p.o 2;go_wp2;exact br_ (by simp[results,results161,asAddr,Result.andThen,r]) rfl a.o
end Go.Proofs.YtmccnmgaoppogabGreat
