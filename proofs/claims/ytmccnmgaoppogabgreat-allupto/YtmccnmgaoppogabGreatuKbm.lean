import Derived.Test.YtmccnmgaoppogabGreatuX8
import Derived.Test.YtmccnmgaoppogabGreatuSS
namespace Go.Proofs.YtmccnmgaoppogabGreat
open Pu
set_option linter.all false
open Go.Proofs.Tryz Tryz
set_option maxRecDepth 100000
set_option maxHeartbeats 8000000
open Go.RowKit
variable {W:W_} {gr gs:Nat} {rest:List V_} {iD iJ:V_}
namespace Pu
theorem UE.congr{L n i:Nat}{y:aF}{bg l c d:Nat->Nat->Bool}(h:UE L y i bg l)(f:NdK n i y)(e:∀j p,j<n->p<L->c j p=bg j p/\d j p=l j p):UE L y i c d:=by
 have q:=f.lt;refine⟨fun k p a b=>?_,fun k p a b=>?_,fun k p a b=>?_,fun k p a b=>?_⟩
 .have:=f.kl k;rw[(e y.l p o_ a).1];exact h.c1 k p a (by rw[<-(e i p q a).1];exact b)
 .have:=f.kr (.inl k);rw[(e y.r p o_ a).1];exact h.c2 k p a (by rw[<-(e y.l p o_ a).2];exact b)
 .have:=f.kr (.inr k);rw[(e y.r p o_ a).1];exact h.c3 k p a (by rw[<-(e i p q a).1];exact b)
 .have:=f.kl o_;rw[(e y.l p o_ a).1];exact h.c4 k p a (by rw[<-(e y.l p o_ a).2];exact b)
theorem Zv.congr{L n i:Nat}{y:aF}{w:List Nat}{bg u d f:Nat->Nat->Bool}(h:Zv L w y i bg u)(t:NdK n i y)(F:L=w.length+2)(v:∀c∈w,c<256)(e:∀j p,j<n->p<L->d j p=bg j p/\f j p=u j p):Zv L w y i d f:=by
 have b:=t.lt;refine⟨fun k q a G=>?_,fun k q a l=>?_,fun k q a l=>?_,fun k H q a l=>?_⟩
 .rw [(e i q b a).2];refine h.e1 k q a ?_;rw[F]at a;obtain⟨x,c,z,A,B⟩:=(wo v a).1 G;exact (wo v a).2 ⟨x,c,z,by rw[<-(e i x b o_).1];exact A,B⟩
 .have:=t.kr k;rw[(e i q b a).2];exact h.e2 k q a (by rw[<-(e y.r q o_ a).2];exact l)
 .rw [(e i q b a).2];exact h.e0 k q a (by rw[<-(e i q b a).1];exact l)
 .have:=t.kl k;rw[(e i q b a).2];exact h.eL k H q a (by rw[<-(e y.l q o_ a).2];exact l)
end Pu
structure QR(w0:W_)(gw g:Nat)(s:Y_)(L:Nat)(vb ve:V_)(bs es:List Nat)(W:W_):Prop where
 be:B_ w0 W
 b:dh W gw 268 [p_ g,.string s,vb,ve]
 ob:W.ownsRow w0.heap.size 153 1 vb bs.length (nV L bs)
 oe:W.ownsRow w0.heap.size 153 1 ve es.length (nV L es)
 rb:∀x∈bs++es,Bl W x L (fun _=>false)
 nd:(bs++es).Nodup
 lo:∀x∈bs++es,w0.heap.size<=x
 gl:w0.heap.size<=gw
 ne:∀x,vb.ownBlock=some x->ve.ownBlock≠some x
section
variable {w0:W_} {gw g:Nat} {s:Y_} {L:Nat} {vb ve:V_} {bs es:List Nat} {W W':W_}
theorem QR.below(h:QR w0 gw g s L vb ve bs es W)(a:B_ W W'):QR w0 gw g s L vb ve bs es W':=
 ⟨ja h.be a,bO h.b a (bP h.b),bW h.ob a dF,bW h.oe a dF,fun x b=>bO (h.rb x b) a (bP (h.rb x b)),h.nd,h.lo,h.gl,h.ne⟩
theorem QR.fresh(h:QR w0 gw g s L vb ve bs es W):W.heap.size∉bs++es:=fun a=>by have:=bP (h.rb _ a);omega
theorem QR.aiT(h:QR w0 gw g s L vb ve bs es W){b j:Nat}{f:W_}(y:f.ownsRow w0.heap.size 153 1 (s_ b (bs.length+1) j) (bs.length+1) (nV L bs++[s_ W.heap.size L L]))(l:(sG W L).grownBy f vb.ownBlock)(c:vb.ownBlock=some b\/b=W.heap.size+1+1) :
  QR w0 gw g s L (s_ b (bs.length+1) j) ve (bs++[W.heap.size]) es (f.setCell (a_ gw 2) (s_ b (bs.length+1) j)):=by
 have d:=h.below (jT W L);have p:=gs_ f gw 2 (s_ b (bs.length+1) j);have i:=dZ d.ob d.b d_ l;have v:w0.heap.size<=(sG W L).heap.size:=d.be.size;have t:bs++[W.heap.size]++es=bs++W.heap.size::es:=i_;refine⟨?_,cK i 2 _,?_,dG (EI d.oe (fun k e q=>h.ne k q.symm e) l) i d_ p,fun x a=>?_,?_,fun x a=>?_,h.gl,fun x e=>?_⟩
 .have q:B_ w0 f:=d.be.grown l v (fun k e=>(ol_ d.ob k e).1);exact q.grown p q.size (fun k e=>by cases e;exact h.gl)
 .have:=dG y i d_ p;rw[la_,uy];exact this
 .have k:Bl (sG W L) x L (fun _=>false):=by
   by_cases e:x=W.heap.size
   .subst e;exact yC W L
   .refine d.rb x ?_;simp only[ma_,List.mem_singleton]at a |-;rcases a with (a | a) | a
    .exact .inl a
    .exact absurd a e
    .exact .inr a
  have q:=dZ d.ob k d_ l;exact bR q p (fun e=>dI q i d_ (oi_ e))
 .rw [t,(List.perm_middle).nodup_iff];exact List.nodup_cons.2 ⟨h.fresh,h.nd⟩
 .by_cases e:x=W.heap.size
  .subst e;exact h.be.size
  .refine h.lo x ?_;simp only[ma_,List.mem_singleton]at a |-;rcases a with (a | a) | a
   .exact .inl a
   .exact absurd a e
   .exact .inr a
 .have q:b=x:=oi_ e;subst q;rcases c with c | c
  .exact h.ne b c
  .intro u;have:=(ol_ h.oe b u).2;omega
theorem QR.aiU(h:QR w0 gw g s L vb ve bs es W){b j:Nat}{f:W_}(y:f.ownsRow w0.heap.size 153 1 (s_ b (es.length+1) j) (es.length+1) (nV L es++[s_ W.heap.size L L]))(l:(sG W L).grownBy f ve.ownBlock)(c:ve.ownBlock=some b\/b=W.heap.size+1+1) :
  QR w0 gw g s L vb (s_ b (es.length+1) j) bs (es++[W.heap.size]) (f.setCell (a_ gw 3) (s_ b (es.length+1) j)):=by
 have d:=h.below (jT W L);have p:=gs_ f gw 3 (s_ b (es.length+1) j);have i:=dZ d.oe d.b d_ l;have v:w0.heap.size<=(sG W L).heap.size:=d.be.size;have t:bs++(es++[W.heap.size])=(bs++es)++W.heap.size::[]:=i_;refine⟨?_,cK i 3 _,dG (EI d.ob (fun k e q=>h.ne k e q.symm) l) i d_ p,?_,fun x a=>?_,?_,fun x a=>?_,h.gl,fun x e u=>?_⟩
 .have q:B_ w0 f:=d.be.grown l v (fun k e=>(ol_ d.oe k e).1);exact q.grown p q.size (fun k e=>by cases e;exact h.gl)
 .have:=dG y i d_ p;rw[la_,uy];exact this
 .have k:Bl (sG W L) x L (fun _=>false):=by
   by_cases e:x=W.heap.size
   .subst e;exact yC W L
   .refine d.rb x ?_;simp only[ma_,List.mem_singleton]at a |-;rcases a with a | a | a
    .exact .inl a
    .exact .inr a
    .exact absurd a e
  have q:=dZ d.oe k d_ l;exact bR q p (fun e=>dI q i d_ (oi_ e))
 .rw [t,(List.perm_middle).nodup_iff,List.append_nil];exact List.nodup_cons.2 ⟨h.fresh,h.nd⟩
 .by_cases e:x=W.heap.size
  .subst e;exact h.be.size
  .refine h.lo x ?_;simp only[ma_,List.mem_singleton]at a |-;rcases a with a | a | a
   .exact .inl a
   .exact .inr a
   .exact absurd a e
 .have q:b=x:=oi_ u;subst q;rcases c with c | c
  .exact h.ne b e c
  .have:=(ol_ h.ob b e).2;omega
end
theorem acK(w:W_)(gw g n L c a ge b:Nat)(s:Y_)(bs es:List Nat)(W:W_)(h:QR w gw g s L (s_ c n a) (s_ ge n b) bs es W)(d:bs.length=n)(le:es.length=n):lQ w gw g s n L c a ge b bs es (fun _ _=>false) (fun _ _=>false) W:=
 ⟨h.be,h.b,by have:=h.ob;rw[d]at this;exact this,by have:=h.oe;rw[le]at this;exact this,d,le,fun i g e=>h.rb g (List.mem_append_left _ (mg_ e)),fun i g e=>h.rb g (List.mem_append_right _ (mg_ e)),h.nd,h.lo⟩
def Z7(s:Y_)(x:aM)(w:W_)(e:Ending)(w':W_):Prop:=
 ∃gr f,e=.returned (s_ gr (s.size+2) (s.size+2))/\B_ w w'/\Bl w' gr (s.size+2) f/\∀q,q<s.size+2->(f q=true↔oG (rO s) x (fun p=>p=0) q)
theorem WN(B0 g aS:Nat)(s0 s:Y_)(ls:List aC)(ns:List aF)(vn vl:V_)(F down:Int)(k:Nat)(x:aC)(n L root:Nat)(w:W_)(hd:Dr B0 g s0 aS ns vn vl F down w)(J:zi ls ns)(Y:ls[k]?=some x)(hn:ns.length=n)(hN:n<=1000)(hs:s.size<=1000)(hL:L=s.size+2)(z:root=dQ (ls.take k)+x.re.size-1) :
  Calls prog 148 #[p_ g,I_ root,.string s] w (Z7 s x.re w):=by
 obtain⟨U,f,l,v,H⟩:=ip_ Ap;have hmk:=qX L o_;have wl:IntKind.i64.wrap ((s.size:Int)+2)=(L:Int):=by rw[oD _ o_ o_];omega
 obtain⟨an,cn,rfl,_,_⟩:=eO hd.own;have rlt:root<n:=by obtain⟨y,_,d⟩:=(J.at' k x Y).root;rw[z,<-hn];exact Pu.nW d
 have HD:=bL hd;have a:B_ w (w.alloc (c_ #[p_ g,.string s,n_,n_] 268)):=kM _;have c:Hid (QR w w.heap.size g s L n_ n_ [] [] (w.alloc (c_ #[p_ g,.string s,n_,n_] 268))):=⟨a,hn_ _ _,iR _ _ _ _,iR _ _ _ _,fun x Y=>by simp at Y,i_,fun x Y=>by simp at Y,dF,fun x e=>by cases e⟩;have NK:Hid (∀i y,ns[i]?=some y->Pu.NdK n i y):=fun i y d=>by rw[<-hn];exact J.ndK d
 have CL:Hid (∀i y,ns[i]?=some y->Ik (rO s) (lJ (rO s) x.re (dQ (ls.take k)) (fun p=>p=0)) (lK (rO s) x.re (dQ (ls.take k)) (fun p=>p=0)) i y):=fun i y d=>ahz J Y _ d;have LW:Hid (L=(rO s).length+2):=by show _=_;rw[MR];exact hL
 have FIN:Hid (∀bg b,E9 (lJ (rO s) x.re (dQ (ls.take k)) (fun p=>p=0)) (lK (rO s) x.re (dQ (ls.take k)) (fun p=>p=0)) L n bg b bg b false->(∀i y,ns[i]?=some y->UE L y i bg b/\Zv L (rO s) y i bg b)->bg root 0=true->∀q,q<L->(b root q=true↔oG (rO s) x.re (fun p=>p=0) q)):=fun bg b h1 N d q e=>by subst z;rw[<-hn]at h1;exact WO J Y LW.o (EM s) h1 N d e
 have SB0:Hid (lJ (rO s) x.re (dQ (ls.take k)) (fun p=>p=0) root 0):=by subst z;exact (kz x.re).2 rfl
 have V:=bL hL;have T:=bL hn;clear hd a J Y z hL hn;generalize lJ (rO s) x.re (dQ (ls.take k)) (fun p=>p=0)=PB at *;generalize lK (rO s) x.re (dQ (ls.take k)) (fun p=>p=0)=PE at *;have G:=bQ 1 (HD.o.below c.o.be).rb rfl;rw[T.o]at G;go_in;go_wp2_with fail;clear G;generalize w.alloc (c_ #[p_ g,.string s,n_,n_] 268)=W1 at *;generalize a:w.heap.size=gw at *;rw[<-a]at c;have b:Hid (QR w gw g s L n_ n_ [] [] W1):=by rw[<-a];exact c.o
 clear c a;go_loopg [8] n (fun gk e c=>∃(i:Nat) (vb ve:V_) (bs es:List Nat),i<=n/\gk=n-i/\e=I_ i/\bs.length=i/\es.length=i/\QR w gw g s L vb ve bs es c);exact⟨0,_,_,[],[],zl_ _,rfl,rfl,rfl,rfl,b.o⟩;clear b;obtain⟨i,vb,ve,bs,es,il',rfl,rfl,a,b,d⟩:=hrel;have G:=bQ 1 (HD.o.below d.be).rb rfl;rw[T.o]at G;have Q:=bL a;have EL:=bL b;have bl5:bs.length<=1000:=o_;have el5:es.length<=1000:=o_;have q:=bL d;clear d a b;by_cases hi:i<n
 .have d1:=oL i n;have wi:=kZ i;go_upto_region 5 with (fail);clear G;go_cut [] from 18 to 52 (fun c=>∃vb' bs',bs'.length=i+1/\QR w gw g s L vb' ve bs' es c)
  case first=>
   have c:=bL (q.o.below (jT wr L));have zG:Hid (∀j u,[s_ wr.heap.size L L][j]?=some u->(sG wr L).cell? ((⟨(wr.alloc (c_ (rY L (fun _=>false)).toArray 4)).heap.size,0,none⟩:Addr).add j)=some u):=World.news_of_block (cs:=#[s_ wr.heap.size L L]) (t:=153) (fr:=(0,0)) (Bb _ _);have ET:Hid (∀j u,[s_ wr.heap.size L L][j]?=some u->(sG wr L).cell? (((a_ (wr.heap.size+1) 0):Addr).add j)=some u):=by have:=zG.o;rw[wa_]at this;exact this
   have c1m:=bQ 2 (cO q.o.b (c_ (rY L (fun _=>false)).toArray 4)) rfl;have Z:Hid (w.heap.size<=(sG wr L).heap.size):=lt_ q.o.be.size (jT _ _).size;have G:=bQ 2 q.o.b rfl;have c1':=bQ 2 c.o.b rfl;refine wd_ (S:=fun _=>True) k_ trivial (fun b=>?_);refine cB 0 ?_;refine cB 1 ?_;refine cB 2 ?_;refine cB 3 ?_;refine cB 5 ?_;refine cB 6 ?_;refine cB 7 ?_;refine yz 4 8 (fun K a=>?_) (fun K a=>?_);all_goals
    go_simp;refine a.out _ _ trivial (fun b=>?_);clear a K
    try simp only[oQ,Act.put]
   .refine fF 8 (fun K a=>?_);go_simp;refine a.out _ _ trivial (fun b=>?_);clear a K
    try simp only[oQ,Act.put]
    refine fF 9 (fun K a=>?_);refine fG 145 153 0 (.tmp 35) (s_ wr.heap.size L L) rfl rfl #[s_ wr.heap.size L L] U _ 1 underlying145 f l v o_ o_ (uG _ _ _) ?_;refine a.out _ _ trivial (fun b=>?_);clear a K
    try simp only[oQ,Act.put]
    refine fF 10 (fun K a=>?_);refine sa_ _ r_ _ _ _ r_ w.heap.size 153 U _ 1 24 underlying145 f l v H rfl o_ vb bs.length (nV L bs) r_ c.o.ob ⟨(wr.alloc (c_ (rY L (fun _=>false)).toArray 4)).heap.size,0,none⟩ 1 1 [s_ wr.heap.size L L] r_ rfl zG.o (fun u d=>by simp at d;subst d;rfl) o_ (by unfold maxLen;omega) o_ Z.o (wr.heap.size+1+1) i_ ?_;intro g2 eZ w2 p d u kg;refine a.out _ _ trivial (fun b=>?_);clear a K;have e:=dZ c.o.ob c.o.b d_ d;have y:=bQ 2 e rfl;have O:=bM e 2
    try simp only[oQ,Act.put]
    refine cB 11 ?_;refine cB 12 ?_;refine fF 13 (fun K a=>?_);go_simp;refine a.out _ _ trivial (fun b=>?_);clear a K;refine wpAnyH_done k_ ?_ _;have R:=bL (q.o.aiT p d u);clear b e y O p d u kg;go_wp2_with fail;go_meet;case rel=>exact⟨_,_,by simp[Q.o],R.o⟩
   .refine yz 4 9 (fun K a=>?_) (fun K a=>?_);focus
     go_simp;refine a.out _ _ trivial (fun b=>?_);clear a K
     try simp only[oQ,Act.put]
     refine fF 9 (fun K a=>?_)
    rotate_left;rotate_left;all_goals
     refine fG 145 153 0 (.tmp 35) (s_ wr.heap.size L L) rfl rfl #[s_ wr.heap.size L L] U _ 1 underlying145 f l v o_ o_ (uG _ _ _) ?_;refine a.out _ _ trivial (fun b=>?_);clear a K
     try simp only[oQ,Act.put]
    refine fF 10 (fun K a=>?_);refine sa_ _ r_ _ _ _ r_ w.heap.size 153 U _ 1 24 underlying145 f l v H rfl o_ vb bs.length (nV L bs) r_ c.o.ob ⟨(wr.alloc (c_ (rY L (fun _=>false)).toArray 4)).heap.size,0,none⟩ 1 1 [s_ wr.heap.size L L] r_ rfl zG.o (fun u d=>by simp at d;subst d;rfl) o_ (by unfold maxLen;omega) o_ Z.o (wr.heap.size+1+1) i_ ?_;rotate_left;focus
     refine fF 4 (fun K a=>?_);go_simp;refine a.out _ _ trivial (fun b=>?_);clear a K
     try simp only[oQ,Act.put]
     refine fF 10 (fun K a=>?_);refine sa_ _ r_ _ _ _ r_ w.heap.size 153 U _ 1 24 underlying145 f l v H rfl o_ vb bs.length (nV L bs) r_ c.o.ob (a_ (wr.heap.size+1) 0) 1 1 [s_ wr.heap.size L L] r_ rfl ET.o (fun u d=>by simp at d;subst d;rfl) o_ (by unfold maxLen;omega) o_ Z.o (wr.heap.size+1+1) i_ ?_
    all_goals
     intro g2 eZ w2 p d u kg;refine a.out _ _ trivial (fun b=>?_);clear a K;have e:=dZ c.o.ob c.o.b d_ d;have y:=bQ 2 e rfl;have O:=bM e 2
     try simp only[oQ,Act.put]
     refine cB 11 ?_;refine cB 12 ?_;refine fF 13 (fun K a=>?_);go_simp;refine a.out _ _ trivial (fun b=>?_);clear a K;refine wpAnyH_done k_ ?_ _;have R:=bL (q.o.aiT p d u);clear b e y O p d u kg;go_wp2_with fail;go_meet;case rel=>exact⟨_,_,by simp[Q.o],R.o⟩
  case rest=>
   clear q Q bl5;obtain⟨vb',bs',e,d⟩:=hcut;have q:=bL d;have Q:=bL e;clear d e;have c:=bL (q.o.below (jT wc L));have zG:Hid (∀j u,[s_ wc.heap.size L L][j]?=some u->(sG wc L).cell? ((⟨(wc.alloc (c_ (rY L (fun _=>false)).toArray 4)).heap.size,0,none⟩:Addr).add j)=some u):=World.news_of_block (cs:=#[s_ wc.heap.size L L]) (t:=153) (fr:=(0,0)) (Bb _ _);have ET:Hid (∀j u,[s_ wc.heap.size L L][j]?=some u->(sG wc L).cell? (((a_ (wc.heap.size+1) 0):Addr).add j)=some u):=by have:=zG.o;rw[wa_]at this;exact this
   have c1m:=bQ 3 (cO q.o.b (c_ (rY L (fun _=>false)).toArray 4)) rfl;have Z:Hid (w.heap.size<=(sG wc L).heap.size):=lt_ q.o.be.size (jT _ _).size;have G:=bQ 3 q.o.b rfl;have c1':=bQ 3 c.o.b rfl;go_upto_region 6 with (fail);refine wd_ (S:=fun _=>True) k_ trivial (fun b=>?_);refine cB 0 ?_;refine cB 1 ?_;refine cB 2 ?_;refine cB 3 ?_;refine cB 5 ?_;refine cB 6 ?_;refine cB 7 ?_;refine yz 4 8 (fun K a=>?_) (fun K a=>?_);all_goals
    go_simp;refine a.out _ _ trivial (fun b=>?_);clear a K
    try simp only[oQ,Act.put]
   .refine fF 8 (fun K a=>?_);go_simp;refine a.out _ _ trivial (fun b=>?_);clear a K
    try simp only[oQ,Act.put]
    refine fF 9 (fun K a=>?_);refine fG 145 153 0 (.tmp 48) (s_ wc.heap.size L L) rfl rfl #[s_ wc.heap.size L L] U _ 1 underlying145 f l v o_ o_ (uG _ _ _) ?_;refine a.out _ _ trivial (fun b=>?_);clear a K
    try simp only[oQ,Act.put]
    refine fF 10 (fun K a=>?_);refine sa_ _ r_ _ _ _ r_ w.heap.size 153 U _ 1 24 underlying145 f l v H rfl o_ ve es.length (nV L es) r_ c.o.oe ⟨(wc.alloc (c_ (rY L (fun _=>false)).toArray 4)).heap.size,0,none⟩ 1 1 [s_ wc.heap.size L L] r_ rfl zG.o (fun u d=>by simp at d;subst d;rfl) o_ (by unfold maxLen;omega) o_ Z.o (wc.heap.size+1+1) i_ ?_;intro g2 eZ w2 p d u kg;refine a.out _ _ trivial (fun b=>?_);clear a K;have e:=dZ c.o.oe c.o.b d_ d;have y:=bQ 3 e rfl;have O:=bM e 3
    try simp only[oQ,Act.put]
    refine cB 11 ?_;refine cB 12 ?_;refine fF 13 (fun K a=>?_);go_simp;refine a.out _ _ trivial (fun b=>?_);clear a K;refine wpAnyH_done k_ ?_ _;have R:=bL (q.o.aiU p d u);clear b e y O p d u kg;go_wp2;go_roundg (n-(i+1));exact⟨i+1,_,_,_,_,o_,rfl,by go_num,by rw[Q.o],by simp[EL.o],R.o⟩;omega
   .refine yz 4 9 (fun K a=>?_) (fun K a=>?_);focus
     go_simp;refine a.out _ _ trivial (fun b=>?_);clear a K
     try simp only[oQ,Act.put]
     refine fF 9 (fun K a=>?_)
    rotate_left;rotate_left;all_goals
     refine fG 145 153 0 (.tmp 48) (s_ wc.heap.size L L) rfl rfl #[s_ wc.heap.size L L] U _ 1 underlying145 f l v o_ o_ (uG _ _ _) ?_;refine a.out _ _ trivial (fun b=>?_);clear a K
     try simp only[oQ,Act.put]
    refine fF 10 (fun K a=>?_);refine sa_ _ r_ _ _ _ r_ w.heap.size 153 U _ 1 24 underlying145 f l v H rfl o_ ve es.length (nV L es) r_ c.o.oe ⟨(wc.alloc (c_ (rY L (fun _=>false)).toArray 4)).heap.size,0,none⟩ 1 1 [s_ wc.heap.size L L] r_ rfl zG.o (fun u d=>by simp at d;subst d;rfl) o_ (by unfold maxLen;omega) o_ Z.o (wc.heap.size+1+1) i_ ?_;rotate_left;focus
     refine fF 4 (fun K a=>?_);go_simp;refine a.out _ _ trivial (fun b=>?_);clear a K
     try simp only[oQ,Act.put]
     refine fF 10 (fun K a=>?_);refine sa_ _ r_ _ _ _ r_ w.heap.size 153 U _ 1 24 underlying145 f l v H rfl o_ ve es.length (nV L es) r_ c.o.oe (a_ (wc.heap.size+1) 0) 1 1 [s_ wc.heap.size L L] r_ rfl ET.o (fun u d=>by simp at d;subst d;rfl) o_ (by unfold maxLen;omega) o_ Z.o (wc.heap.size+1+1) i_ ?_
    all_goals
     intro g2 eZ w2 p d u kg;refine a.out _ _ trivial (fun b=>?_);clear a K;have e:=dZ c.o.oe c.o.b d_ d;have y:=bQ 3 e rfl;have O:=bM e 3
     try simp only[oQ,Act.put]
     refine cB 11 ?_;refine cB 12 ?_;refine fF 13 (fun K a=>?_);go_simp;refine a.out _ _ trivial (fun b=>?_);clear a K;refine wpAnyH_done k_ ?_ _;have R:=bL (q.o.aiU p d u);clear b e y O p d u kg;go_wp2;go_roundg (n-(i+1));exact⟨i+1,_,_,_,_,o_,rfl,by go_num,by rw[Q.o],by simp[EL.o],R.o⟩;omega
 .have d1:=nI i n;have ei:i=n:=o_;subst ei;obtain⟨gb,cb,evb,_,_⟩:=dL q.o.ob (by rw[Q.o];omega);obtain⟨ge,ce,eve,_,_⟩:=dL q.o.oe (by rw[EL.o];omega);rw[Q.o]at evb;rw[EL.o]at eve;subst evb eve;have a:=bL (acK w gw g i L gb cb ge ce s bs es wr q.o Q.o EL.o);obtain⟨gr,Qr⟩:∃x,Hid (bs[root]?=some x):=⟨_,gg_ (by rw[Q.o];omega)⟩;obtain⟨gz,Qz⟩:∃x,Hid (es[root]?=some x):=⟨_,gg_ (by rw[EL.o];omega)⟩;have L0:0<L:=by rw[V.o];omega
  have Ll:L<=100000:=by rw[V.o];omega
  have aY:=jJ root;have r1:(root:Int)<i:=o_;have z0:(0:Int)<L:=o_;have e2:=bQ 2 a.o.b rfl;have e3:wr.cell? (a_ gb root)=some (s_ gr L L):=bV a.o.ob (fH Qr.o);have e:=bN (a.o.rb _ _ Qr.o) (iy _ L0);have y:=bM (a.o.rb _ _ Qr.o) 0;have d:=bL (a.o.xV Qr.o (gs_ wr gr 0 (.bool true)) ((a.o.rb _ _ Qr.o).set 0 true));have u:Hid (E9 PB PE L i (dV (fun _ _=>false) root (uW (fun _=>false) 0 true)) (fun _ _=>false) (dV (fun _ _=>false) root (uW (fun _=>false) 0 true)) (fun _ _=>false) false):=⟨fun j p _ _ h=>(by
   unfold dV uW at h;by_cases c:j=root
   .rw [if_pos c]at h;by_cases b:p=0
    .rw [c,b];exact SB0.o
    .simp [b]at h
   .rw [if_neg c]at h;cases h),fun j p _ _ h=>(by cases h),fun _ _ h=>h,i_,fun _ _ _ _ _=>⟨rfl,rfl⟩⟩
  have p:Hid (dV (fun _ _=>false) root (uW (fun _=>false) 0 true) root 0=true):=by show _=_;rw[wz];unfold uW;rw[if_pos rfl]
  clear q a hmk wl;go_wp2_with fail;clear e2 e3 e y G;generalize dV (fun _ _=>false) root (uW (fun _=>false) 0 true)=bg1 at *;generalize (fun _ _=>false:Nat->Nat->Bool)=en1 at *;generalize wr.setCell (a_ gr 0) (.bool true)=W2 at *;go_loopg [9,10,11,12,13] (Oi i L bg1+Oi i L en1+1) (fun gk O _ _ _ _ c=>∃(bg b:Nat->Nat->Bool) (more:Bool),gk=Oi i L bg+Oi i L b+(if more=true then 1 else 0)/\O=.bool more/\lQ w gw g s i L gb cb ge ce bs es bg b c/\E9 PB PE L i bg b bg b false/\bg root 0=true/\(more=false->∀j y,ns[j]?=some y->UE L y j bg b/\Zv L (rO s) y j bg b));exact⟨bg1,en1,true,rfl,rfl,d.o,u.o,p.o,fun e=>by cases e⟩;clear d u p SB0;obtain⟨u,a,aj3,rfl,rfl,A,B,hR,hE⟩:=hrel;have p:=bL A;have I:=bL B;have RR:=bL hR;cases aj3 with
  | false=>
   have b:=bL (FIN.o u a B (hE rfl) hR);have e2:=bQ 3 A.b rfl;have e3:wr.cell? (a_ ge root)=some (s_ gz L L):=bV A.oe (fH Qz.o);have RES:Hid (Z7 s x.re w (.returned (s_ gz L L)) wr):=by have y:=p.o.re _ _ Qz.o;have c:=b.o;rw[V.o]at y c |-;exact⟨gz,a root,rfl,p.o.be,y,c⟩
   clear A B hR hE b I;go_wp2;go_ret;exact RES.o
  | true=>
   clear A B hR hE;have G:=bQ 1 (HD.o.below p.o.be).rb rfl;rw[T.o]at G;have ws:=yL ((i:Int)-1);go_wp2_with fail;clear G;go_loopg [9,10,11] i (fun gk O e _ c=>∃(bg:Nat->Nat->Bool) (more:Bool) (k:Nat),k<=i/\gk=k/\O=.bool more/\e=I_ ((k:Int)-1)/\lQ w gw g s i L gb cb ge ce bs es bg a c/\E9 PB PE L i u a bg a more/\(more=false->∀j y,k<=j->ns[j]?=some y->UE L y j u a));exact⟨u,false,i,dF,rfl,rfl,rfl,p.o,I.o,fun _ j y h1 N=>by have:=Pu.nW N;rw[T.o]at this;omega⟩;clear p I;obtain⟨bg,more,k,kl,rfl,rfl,rfl,A,B,hC⟩:=hrel;have p:=bL A;have I:=bL B;have R:=bL hC;by_cases hk:0<gk
   .have d2:decide ((0:Int)<=gk-1)=true:=dt_ o_;have wk:=yL ((gk:Int)-1-1);obtain⟨m,rfl⟩:∃m,gk=m+1:=⟨gk-1,o_⟩;have em:((m+1:Nat):Int)-1=(m:Int):=o_;obtain⟨y,d⟩:∃y,ns[m]?=some y:=⟨_,gg_ (by rw[T.o];omega)⟩;have c:=bL (aaG B0 g aS s0 s ns _ _ F down w gw i L gb cb ge ce bs es bg a m y wr HD.o d T.o (NK.o m y d) Ll o_ A);have Z:=bL (B.down (CL.o m y d) (NK.o m y d));have HY:=bL d;clear A B hC d;rw[em]at d2 wk |-
    go_wp2_with fail;refine c.o.mono ?_;clear c;rintro e w2 ⟨rfl,O⟩;have d:=bL O;have ND:Hid ((more || Pu.BQ L y m bg a)=false->∀j X,m<=j->ns[j]?=some X->UE L X j u a):=fun e j X h1 N=>by
     by_cases c:j=m
     .subst c;rw[HY.o]at N;cases N;exact Z.o.2 e
     .exact R.o (Bool.or_eq_false_iff.1 e).1 j X o_ N
    have c:=bL Z.o.1;clear Z R I p O HY;generalize Pu.BQ L y m bg a=r at *;generalize Ea y m bg a=b at *;cases more with
    | true=>
     go_wp2;go_roundg m;exact⟨b,true,m,o_,rfl,rfl,by go_num,d.o,c.o,ND.o⟩;omega
    | false=>
     go_wp2;go_roundg m;exact⟨b,r,m,o_,rfl,i_,by go_num,d.o,by have:=c.o;rwa[Bool.false_or]at this,by have:=ND.o;rwa[Bool.false_or]at this⟩;omega
   .have ek:gk=0:=o_;subst ek;have d2:decide ((0:Int)<=((0:Nat):Int)-1)=false:=d_;have d:Hid (more=false->∀j y,ns[j]?=some y->UE L y j u a):=fun e j y h=>R.o e j y (zl_ _) h;clear A B hC R;go_wp2_with fail;go_loopg [9,12,13] i (fun gk O e _ c=>∃(b:Nat->Nat->Bool) (more:Bool) (k:Nat),k<=i/\gk=i-k/\O=.bool more/\e=I_ k/\lQ w gw g s i L gb cb ge ce bs es bg b c/\E9 PB PE L i u a bg b more/\(more=false->(∀j y,ns[j]?=some y->UE L y j u a)/\∀j y,j<k->ns[j]?=some y->Zv L (rO s) y j u a));exact⟨a,more,0,zl_ _,rfl,rfl,rfl,p.o,I.o,fun e=>⟨d.o e,fun j y h=>absurd h (Nat.not_lt_zero _)⟩⟩;clear p I d;obtain⟨b,more,k,kl,rfl,rfl,rfl,A,B,hC⟩:=hrel;have p:=bL A;have I:=bL B;have R:=bL hC;have G:=bQ 1 (HD.o.below A.be).rb rfl;rw[T.o]at G;by_cases hk:k<i
    .have d3:=oL k i;have wk:=kZ k;obtain⟨y,d⟩:∃y,ns[k]?=some y:=⟨_,gg_ (by rw[T.o];omega)⟩;have c:=bL (ahH B0 g aS s0 s ns _ _ F down w gw i L gb cb ge ce bs es bg b k y wr HD.o d T.o (NK.o k y d) Ll o_ A V.o hs);have Z:=bL (B.up (CL.o k y d) (NK.o k y d) LW.o (EM s));have HY:=bL d;clear A B hC d;go_wp2_with fail;refine c.o.mono ?_;clear c G;rintro e w2 ⟨rfl,O⟩;have d:=bL O;have ND:Hid ((more || Pu.DK L (rO s) y k bg b)=false->(∀j y,ns[j]?=some y->UE L y j u a)/\∀j X,j<k+1->ns[j]?=some X->Zv L (rO s) X j u a):=fun e=>⟨(R.o (Bool.or_eq_false_iff.1 e).1).1,fun j X h1 N=>by
      by_cases c:j=k
      .subst c;rw[HY.o]at N;cases N;exact Z.o.2 e
      .exact (R.o (Bool.or_eq_false_iff.1 e).1).2 j X o_ N⟩
     have c:=bL Z.o.1;clear Z R I p O HY;generalize Pu.DK L (rO s) y k bg b=r at *;generalize Hw (rO s) y k bg b=O at *;cases more with
     | true=>
      go_wp2;go_roundg (i-(k+1));exact⟨O,true,k+1,o_,rfl,rfl,by go_num,d.o,c.o,ND.o⟩;omega
     | false=>
      go_wp2;go_roundg (i-(k+1));exact⟨O,r,k+1,o_,rfl,i_,by go_num,d.o,by have:=c.o;rwa[Bool.false_or]at this,by have:=ND.o;rwa[Bool.false_or]at this⟩;omega
    .have d3:=nI k i;have MS:Hid (Oi i L bg+Oi i L b+(if more=true then 1 else 0)<Oi i L u+Oi i L a+(if true=true then 1 else 0)):=by have:=B.cnt;show _<_;rw[if_pos (rfl:true=true)];omega
     have Z:Hid (more=false->∀j y,ns[j]?=some y->UE L y j bg b/\Zv L (rO s) y j bg b):=fun e j y d=>by have c:=R.o e;have O:=I.o.same e;exact⟨(c.1 j y d).congr (NK.o j y d) O,(c.2 j y (by have:=Pu.nW d;rw[T.o]at this;omega) d).congr (NK.o j y d) LW.o (EM s) O⟩
     have c:=bL (B.mb root 0 RR.o);clear A B hC R;go_wp2;go_roundg (Oi i L bg+Oi i L b+(if more=true then 1 else 0));exact⟨bg,b,more,rfl,rfl,p.o,I.o.start,c.o,Z.o⟩;exact MS.o
namespace Pu
structure Ask(ls:List aC)(mode:Int)(w:List Nat)(k:Nat)(r:Int)(on:Bool):Prop where
 r:(r=-1/\∀i x,i<k->ls[i]?=some x->x.mode=mode->¬M x.re w)\/∃(i:Nat) (x:aC),r=(i:Int)/\i<k/\ls[i]?=some x/\x.mode=mode/\M x.re w/\∀j y,j<i->ls[j]?=some y->y.mode=mode->¬M y.re w
 on:on=true↔∃v:List Nat,v≠[]/\CS v/\∃(i:Nat) (x:aC),i<k/\ls[i]?=some x/\x.mode=mode/\M x.re (w++v)
section
variable {ls:List aC} {mode:Int} {w:List Nat} {k:Nat} {r:Int} {on:Bool}
theorem Ask.zero:Ask ls mode w 0 (-1) false:=⟨.inl ⟨rfl,fun i x h=>absurd h (Nat.not_lt_zero _)⟩,⟨fun h=>(by cases h),fun ⟨v,_,_,i,x,h,_⟩=>absurd h (Nat.not_lt_zero _)⟩⟩
theorem Ask.skip(h:Ask ls mode w k r on){x:aC}(t:ls[k]?=some x)(q:x.mode≠mode):Ask ls mode w (k+1) r on:=by
 have l:∀i y,i<k+1->ls[i]?=some y->y.mode=mode->i<k:=fun i y d j p=>by
  by_cases e:i=k
  .subst e;rw[t]at j;cases j;exact absurd p q
  .omega
 refine⟨?_,?_⟩
 .rcases h.r with ⟨d,j⟩ | ⟨i,y,d,j,p⟩
  .exact .inl ⟨d,fun i y a b c=>j i y (l i y a b c) b c⟩
  .exact .inr ⟨i,y,d,o_,p⟩
 .rw [h.on];exact⟨fun ⟨v,a,b,i,y,c,d⟩=>⟨v,a,b,i,y,o_,d⟩,fun ⟨v,a,b,i,y,c,d,e,f⟩=>⟨v,a,b,i,y,l i y c d e,d,e,f⟩⟩
theorem Ask.next(h:Ask ls mode w k r on){x:aC}(l:ls[k]?=some x)(t:x.mode=mode){m o:Bool}(q:m=true↔M x.re w)(F:o=true↔∃v:List Nat,v≠[]/\(∀c∈v,c<256)/\M x.re (w++v)):Ask ls mode w (k+1) (if m=true/\r<0 then (k:Int) else r) (on || o):=by
 refine⟨?_,?_⟩
 .rcases h.r with ⟨f,p⟩ | ⟨i,y,f,p,u,z,A,B⟩
  .by_cases c:m=true
   .rw [if_pos ⟨c,o_⟩];exact .inr ⟨k,x,rfl,o_,l,t,q.1 c,fun j y a b d=>p j y a b d⟩
   .rw [if_neg (fun h=>c h.1)];refine .inl ⟨f,fun i y a b d=>?_⟩;by_cases e:i=k
    .subst e;rw[l]at b;cases b;exact fun j=>c (q.2 j)
    .exact p i y o_ b d
  .rw [if_neg (fun h=>o_)];exact .inr ⟨i,y,f,o_,u,z,A,B⟩
 .rw [Bool.or_eq_true,h.on,F];constructor
  .rintro (⟨v,a,b,i,y,c,d⟩ | ⟨v,a,b,c⟩)
   .exact⟨v,a,b,i,y,o_,d⟩
   .exact⟨v,a,b,k,x,o_,l,t,c⟩
  .rintro ⟨v,a,b,i,y,c,d,e,f⟩;by_cases j:i=k
   .subst j;rw[l]at d;cases d;exact .inr ⟨v,a,b,f⟩
   .exact .inl ⟨v,a,b,i,y,o_,d,e,f⟩
theorem Ask.first(h:Ask ls mode w ls.length r on):pJ ls mode w r:=by
 rcases h.r with ⟨d,e⟩ | ⟨i,y,d,e,f,l,p,q⟩
 .exact .inl ⟨d,fun i x a b=>e i x (nW a) a b⟩
 .exact .inr ⟨i,y,d,f,l,p,fun j z a b c=>q j z a b c⟩
theorem Ask.onw(h:Ask ls mode w ls.length r on):on=true↔OnW ls mode w:=by rw[h.on];exact⟨fun ⟨v,a,b,i,y,_,d⟩=>⟨v,a,b,i,y,d⟩,fun ⟨v,a,b,i,y,d⟩=>⟨v,a,b,i,y,nW d.1,d⟩⟩
end
end Pu
def Ru(W:W_)(a:List aC)(g:Nat):Prop:=∃B b e c d,uk b 0 [] a/\b.size<=300/\Dr B g b (b.size+1) (fQ a).ns e (.slice c (fQ a).ls.length d) (fQ a).modes (fQ a).down W/\W.ownsRow B 144 5 (.slice c (fQ a).ls.length d) (fQ a).ls.length (Ih (fQ a).ls)
theorem Ru.below{W W':W_}{a:List aC}{g:Nat}(h:Ru W a g)(b:B_ W W'):Ru W' a g:=by obtain⟨B,l,p,c,d,e,f,i,j⟩:=h;exact⟨B,l,p,c,d,e,f,i.below b,bW j b dF⟩
theorem Ru.on{W':W_}{a:List aC}{g go t:Nat}{ys:List V_}(h:Ru W a g)(c:dh W go t ys)(n1:t≠142)(q:t≠181)(u:t≠144)(d:W.grownBy W' (some go)):Ru W' a g:=by obtain⟨B,v,x,f,i,j,l,b,p⟩:=h;exact⟨B,v,x,f,i,j,l,⟨bR b.rb d (fun e=>dI b.rb c (Ne.symm n1) (oi_ e)),b.up,dG b.own c q d⟩,dG p c u d⟩
def ZZ(a:List aC)(mode:Int)(s:Y_)(w:W_)(e:Ending)(w':W_):Prop:=
 ∃r on,e=.returned (.tuple #[I_ r,.bool on])/\B_ w w'/\pJ a mode (rO s) r/\(on=true↔Pu.OnW a mode (rO s))
theorem Wl(s:Y_)(a:List aC)(g:Nat)(mode:Int)(w:W_)(hR:Ru w a g)(hs:s.size<=1000) :
  Calls prog 137 #[p_ g,I_ mode,.string s] w (ZZ a mode s w):=by
 obtain⟨A,z,V,F,G,e,X,c,d⟩:=hR;have b:=Am a e.Ao.1;have f:=e.Ao;have I:(fQ a).ns.length<=1000:=by have:=e.nodes (zl_ _);omega
 have i:(fQ a).ls.length=a.length:=uq a;have Y:a.length<=16:=f.2.2;have N:Hid (Dr A g z (z.size+1) (fQ a).ns V (.slice F (fQ a).ls.length G) (fQ a).modes (fQ a).down w/\w.ownsRow A 144 5 (.slice F (fQ a).ls.length G) (fQ a).ls.length (Ih (fQ a).ls)):=⟨c,d⟩;have J:=bL b;have O:=bL i;clear c d e b f i;have t0:(0:Int)<=s.size:=o_;have t1:(s.size:Int)<((s.size+2:Nat):Int):=o_;have t2:(0:Int)<=s.size+1:=o_;have t3:(s.size:Int)+1<((s.size+2:Nat):Int):=o_;have ws:=yL ((s.size:Int)+1);have y:=bL (EM s);have v:Hid ((rO s).length=s.size):=MR s;go_in;go_wp2_with fail;go_loopg [8,9,10,11] a.length (fun gk d c b _ e=>∃(i:Nat) (r:Int) (on:Bool),i<=a.length/\gk=a.length-i/\d=I_ r/\c=.bool on/\b=I_ i/\B_ w e/\Pu.Ask a mode (rO s) i r on);exact⟨0,-1,false,zl_ _,rfl,rfl,rfl,rfl,Br_ _ _,.zero⟩;obtain⟨i,r,on,il,rfl,rfl,rfl,rfl,b,d⟩:=hrel;have c:Hid (Dr A g z (z.size+1) (fQ a).ns V (.slice F (fQ a).ls.length G) (fQ a).modes (fQ a).down wr/\wr.ownsRow A 144 5 (.slice F (fQ a).ls.length G) (fQ a).ls.length (Ih (fQ a).ls)):=⟨N.o.1.below b,bW N.o.2 b dF⟩;have R:=bQ 2 c.o.1.rb rfl;rw[O.o]at R;have u:=bL b;have t:=bL d;clear b d;by_cases hi:i<a.length
 .have Z:=oL i a.length;have wi:=kZ i;have aS:=jJ i;have i1:(i:Int)<a.length:=o_;obtain⟨x,hx⟩:=rG a i hi;have B:=J.o.get i x hx;obtain⟨S,cv,ev,_,_⟩:=dL c.o.2 (by rw[O.o];omega);cases ev;have aW:wr.cell? (a_ S (i*5))=some (I_ x.mode):=by have:=bV c.o.2 (qx B (j:=0) o_);exact this
  have U:wr.cell? (a_ S (i*5+4))=some (I_ ((dQ (a.take i)+x.re.size-1:Nat):Int)):=bV c.o.2 (qx B (j:=4) o_);by_cases p:x.mode=mode
  .have T:(x.mode != mode)=false:=by simpa using p
   have b:=bL (WN _ g _ z s a _ _ _ _ _ i x _ (s.size+2) _ wr c.o.1 J.o.net hx rfl I hs rfl rfl);have Q:=bL (fun (m o:Bool) h1 h2=>t.o.next hx p (m:=m) (o:=o) h1 h2);clear B hx p;generalize dQ (a.take i)+x.re.size-1=root at *;generalize x.mode=xm at *;go_wp2_with fail;refine b.o.mono ?_;clear b R aW U T;rintro e w2 ⟨gr,f,rfl,q,b,H⟩;have d:=bL (ja u.o q);have l:=bL (Q.o (f s.size) (f (s.size+1)) (by have h:=H s.size o_;rw[<-v.o]at h |-;rw[h];exact aen y.o) (by have h:=H (s.size+1) o_;rw[<-v.o]at h |-;rw[h];exact abo y.o));have k1:=bN b (iy f (o_:s.size<s.size+2));have k2:=bN b (iy f (o_:s.size+1<s.size+2));clear q b H Q u t c;generalize f s.size=aP at *;generalize f (s.size+1)=aQ at *;cases aP with
   | false=>
    have b:Hid (Pu.Ask a mode (rO s) (i+1) r (on || aQ)):=by have:=l.o;rw[if_neg i_]at this;exact this
    clear l;cases on with
    | true=>
     go_wp2;go_roundg (a.length-(i+1));exact⟨i+1,r,true,o_,rfl,rfl,rfl,by go_num,d.o,b.o⟩;omega
    | false=>
     go_wp2;go_roundg (a.length-(i+1));exact⟨i+1,r,aQ,o_,rfl,rfl,i_,by go_num,d.o,by have:=b.o;rwa[Bool.false_or]at this⟩;omega
   | true=>
    by_cases q:r<0
    .have H:decide (r<0)=true:=dt_ q;have b:Hid (Pu.Ask a mode (rO s) (i+1) (i:Int) (on || aQ)):=by have:=l.o;rw[if_pos ⟨rfl,q⟩]at this;exact this
     clear l q;cases on with
     | true=>
      go_wp2;go_roundg (a.length-(i+1));exact⟨i+1,(i:Int),true,o_,rfl,rfl,rfl,by go_num,d.o,b.o⟩;omega
     | false=>
      go_wp2;go_roundg (a.length-(i+1));exact⟨i+1,(i:Int),aQ,o_,rfl,rfl,i_,by go_num,d.o,by have:=b.o;rwa[Bool.false_or]at this⟩;omega
    .have H:decide (r<0)=false:=dn_ q;have b:Hid (Pu.Ask a mode (rO s) (i+1) r (on || aQ)):=by have:=l.o;rw[if_neg (fun h=>q h.2)]at this;exact this
     clear l q;cases on with
     | true=>
      go_wp2;go_roundg (a.length-(i+1));exact⟨i+1,r,true,o_,rfl,rfl,rfl,by go_num,d.o,b.o⟩;omega
     | false=>
      go_wp2;go_roundg (a.length-(i+1));exact⟨i+1,r,aQ,o_,rfl,rfl,i_,by go_num,d.o,by have:=b.o;rwa[Bool.false_or]at this⟩;omega
  .have T:(x.mode != mode)=true:=by simpa using p
   have b:=bL (t.o.skip hx p);clear B hx p U;generalize x.mode=xm at *;go_wp2;go_roundg (a.length-(i+1));exact⟨i+1,r,on,o_,rfl,rfl,rfl,by go_num,u.o,b.o⟩;omega
 .have Z:=nI i a.length;have d:i=a.length:=o_;have b:Hid (ZZ a mode s w (.returned (.tuple #[I_ r,.bool on])) wr):=by have:=t.o;rw[d]at this;exact⟨r,on,rfl,u.o,this.first,this.onw⟩
  clear t u c;go_wp2;go_ret2;exact b.o
namespace Pu
theorem pJ.zJ{ls:List aC}{mode:Int}{w:List Nat}{r u:Int}(h:pJ ls mode w r)(p:pJ ls mode w u):r=u:=by
 rcases h with ⟨d,b⟩ | ⟨i,x,d,b,q,t,z⟩
 .rcases p with ⟨e,_⟩ | ⟨j,y,_,a,f,l,_⟩
  .rw [d,e]
  .exact absurd l (b j y a f)
 .rcases p with ⟨_,a⟩ | ⟨j,y,e,a,f,l,v⟩
  .exact absurd t (a i x b q)
  .rcases Nat.lt_trichotomy i j with c | c | c
   .exact absurd t (v i x c b q)
   .rw [d,e,c]
   .exact absurd l (z j y c a f)
theorem afk{s:Y_}{p n:Nat}(h:p+n<=s.size):rO (s.extract p (p+n))=wd s p n:=by
 have e:(s.extract p (p+n)).size=n:=by rw[ByteArray.size_extract];omega
 unfold rO wd;rw[e];refine List.map_congr_left (fun i a=>?_);rw[jb s p (p+n) i h (by have:=List.mem_range.1 a;omega)]
section
variable {E:bI} {C:bJ} {K:List aA} {st:List Nat} {n:Nat} {D:bJ}
def AtS(E:bI)(C:bJ)(K:List aA)(n:Nat)(D:bJ):Prop:=∃s i c,D=Sk E C K n (mk K E.s C.pos.toNat (n+1)) s i c
theorem aap(hF:Ah E C)(j:KOK K)(h:AtK E C K st n D)(e:¬OnK K (wd E.s C.pos.toNat n)):∃d F,qJ E D d/\AtS E C K n d/\look E d=.stop F 0/\AtS E C K n F:=by
 obtain⟨steps,c,i,rfl,⟨k,a,b,u,f⟩ | ⟨a,b⟩⟩:=h
 .have t:(iT k.longer).length=0:=(QH _).2 (fun c p=>by
   apply Classical.byContradiction;intro l;refine e ⟨a,c,p,?_⟩;unfold ZA;rw[b];exact l)
  obtain⟨v,l⟩:=Pv (st:=st) (steps:=steps) (c:=c) hF j a b f;have q:=f _ _ ((Gh k).1 t);exact⟨_,_,l,⟨_,_,_,rfl⟩,afT rfl q,⟨_,_,_,rfl⟩⟩
 .have p:mk K E.s C.pos.toNat (n+1)=mk K E.s C.pos.toNat n:=by
   show (if _ then _ else _)=_;rw[if_neg];intro l;refine l.2 ?_;unfold RK;rcases a with a | a
   .rw [if_pos a]
   .split
    .rfl
    .rename_i q;rw[a];exact (j.none o_).2
  unfold AtS;rw[p];exact⟨_,_,.refl _,⟨_,_,_,rfl⟩,afT rfl b,⟨_,_,_,rfl⟩⟩
theorem aao(hF:Ah E C)(l:KOK K)(h:AtK E C K st n D)(d:OnK K (wd E.s C.pos.toNat n)):∃b F,qJ E D b/\AtS E C K n b/\AtS E C K n F/\((E.s.size:Int)<=C.pos+n->look E b=if E.ended=true then .stop F 0 else .wait)/\(C.pos+n<E.s.size->E.most<=n->look E b=.stop F 5):=by
 obtain⟨a,c,i,k,q,t,_⟩:=UZ hF l h d;refine⟨_,Sk E C K n (mk K E.s C.pos.toNat (n+1)) (a+1) ((i:Int)+1) c,q,⟨_,_,_,rfl⟩,⟨_,_,_,rfl⟩,fun e=>?_,fun e p=>?_⟩;all_goals
  rw[afS (D:=Sk E C K n (mk K E.s C.pos.toNat (n+1)) a (i:Int) c) rfl t]
 .have:(E.s.size:Int)<=(Sk E C K n (mk K E.s C.pos.toNat (n+1)) a (i:Int) c).pos+(Sk E C K n (mk K E.s C.pos.toNat (n+1)) a (i:Int) c).looked:=e;rw[if_pos this];rfl
 .have f:¬(E.s.size:Int)<=(Sk E C K n (mk K E.s C.pos.toNat (n+1)) a (i:Int) c).pos+(Sk E C K n (mk K E.s C.pos.toNat (n+1)) a (i:Int) c).looked:=by show ¬(E.s.size:Int)<=C.pos+n;omega
  have j:E.most<=(Sk E C K n (mk K E.s C.pos.toNat (n+1)) a (i:Int) c).looked:=p;rw[if_neg f,if_pos j];rfl
end
end Pu
structure oU where
 b:Bool
 e:V_
 r:V_
 c:V_
 t:V_
abbrev ZI(ve b a:V_):oU:=⟨false,ve,b,a,.pointer none⟩
abbrev ZR(g:Nat):oU:=⟨true,n_,n_,n_,p_ g⟩
def oU.st(z:oU)(C:bJ):Int:=cond z.b 0 C.steps
def RuP(W:W_)(p:lZ)(g:Nat):Prop:=∃a,p=nH a/\Ru W a g/\∀j,j<Pu.aV a->(gJ a j).length<=42
def LX(W:W_)(p:lZ)(z:oU):Prop:=(∃ve b a,z=ZI ve b a/\Lists W p ve b a)\/∃g,z=ZR g/\RuP W p g
theorem LX.below{W W':W_}{p:lZ}{z:oU}(h:LX W p z)(d:B_ W W'):LX W' p z:=by
 rcases h with ⟨ve,j,i,b,c⟩ | ⟨g,b,a,c,e,f⟩
 .exact .inl ⟨ve,j,i,b,c.below d⟩
 .exact .inr ⟨g,b,a,c,e.below d,f⟩
theorem LX.on{W W':W_}{p:lZ}{z:oU}{go t:Nat}{ys:List V_}(h:LX W p z)(d:dh W go t ys)(n1:t≠3/\t≠142)(f:t≠48/\t≠181)(i:t≠50/\t≠144)(e:W.grownBy W' (some go)):LX W' p z:=by
 rcases h with ⟨ve,u,q,b,c⟩ | ⟨g,b,a,c,j,l⟩
 .exact .inl ⟨ve,u,q,b,c.on d n1.1 f.1 i.1 e⟩
 .exact .inr ⟨g,b,a,c,j.on d n1.2 f.2 i.2 e,l⟩
theorem LX.rT{p:lZ}{ve c b:V_}(h:LX W p (ZI ve c b)):Lists W p ve c b:=by
 rcases h with ⟨_,_,_,a,d⟩ | ⟨_,a,_⟩
 .cases a;exact d
 .cases a
theorem LX.rul{p:lZ}{g:Nat}(h:LX W p (ZR g)):RuP W p g:=by
 rcases h with ⟨_,_,_,a,_⟩ | ⟨_,a,b⟩
 .cases a
 .cases a;exact b
theorem LX.lo{p:lZ}{z:oU}(h:LX W p z)(g:Nat)(e:z.e.ownBlock=some g):g<W.heap.size:=by
 rcases h with ⟨_,_,_,rfl,a⟩ | ⟨_,rfl,_⟩
 .exact (ol_ a.e g e).2
 .cases e
def kJ(E:bI)(z:oU)(rest:List V_):List V_:=[z.e,z.r,z.c,z.t,I_ E.most,I_ E.depth,.string E.s,.bool E.ended]++rest
def jO(gs:Nat)(z:oU)(C:bJ)(iJ iD:V_):List V_:=[p_ gs,I_ C.pos,I_ C.line,I_ C.iU,I_ C.mode,iJ,I_ (z.st C),iD,I_ C.err]
structure RM(W:W_)(gr gs:Nat)(E:bI)(z:oU)(rest:List V_)(C:bJ)(iJ iD:V_):Prop where
 fB:dh W gr 190 (jO gs z C iJ iD)
 scn:dh W gs 105 (kJ E z rest)
 l:LX W E.p z
theorem RM.ne{E:bI}{z:oU}{C:bJ}(h:RM W gr gs E z rest C iJ iD):gs≠gr:=by intro e;have b:=h.fB;have a:=h.scn;rw[e]at a;unfold dh at b a;rw[b]at a;simp at a
theorem RM.below{W W':W_}{gr gs:Nat}{E:bI}{z:oU}{rest:List V_}{C:bJ}{iJ iD:V_}(h:RM W gr gs E z rest C iJ iD)(a:B_ W W'):RM W' gr gs E z rest C iJ iD:=
 ⟨bO h.fB a (bP h.fB),bO h.scn a (bP h.scn),h.l.below a⟩
theorem RM.set{W:W_}{gr gs:Nat}{E:bI}{z:oU}{rest:List V_}{C D:bJ}{iJ iD QG Ej:V_}(h:RM W gr gs E z rest C iJ iD)(j:Nat)(u:V_)(a:(jO gs z C iJ iD).set j u=jO gs z D QG Ej):RM (W.setCell (a_ gr j) u) gr gs E z rest D QG Ej:=
 ⟨by rw[<-a];exact cK h.fB j u,bU h.scn h.ne _ _,h.l.on h.fB d_ d_ d_ (gs_ W gr j u)⟩
theorem RM.Pg{E:bI}{z:oU}{C D:bJ}(h:RM W gr gs E z rest C iJ iD)(a:jO gs z C iJ iD=jO gs z D iJ iD):RM W gr gs E z rest D iJ iD:=
 ⟨by rw[<-a];exact h.fB,h.scn,h.l⟩
theorem RM.o{go:Nat}{t:TypeId}{ys:List V_}{E:bI}{z:oU}{C:bJ}(h:RM W gr gs E z rest C iJ iD)(f:dh W go t ys)(a:t≠3/\t≠142)(b:t≠48/\t≠181)(c:t≠50/\t≠144)(d:gr≠go)(e:gs≠go)(j:Nat)(u:V_):RM (W.setCell (a_ go j) u) gr gs E z rest C iJ iD:=
 ⟨bU h.fB d _ _,bU h.scn e _ _,h.l.on f a b c (gs_ W go j u)⟩
theorem RM.alloc{W:W_}{gr gs:Nat}{E:bI}{z:oU}{rest:List V_}{C:bJ}{iJ iD:V_}(h:RM W gr gs E z rest C iJ iD)(o:Obj):RM (W.alloc o) gr gs E z rest C iJ iD:=h.below (kM o)
theorem RM.drewN{W:W_}{gr gs:Nat}{E:bI}{z:oU}{rest:List V_}{C:bJ}{iJ iD:V_}(h:RM W gr gs E z rest C iJ iD)(n:Nat):RM (W.drewN n) gr gs E z rest C iJ iD:=h.below (bd_ (Br_ _ _) n)
def nx(E:bI)(a looked:Int):Int:=if a+looked<E.s.size then (if looked=E.most then 3 else 0) else if E.ended then 2 else 1
theorem PD(gs:Nat)(E:bI)(z:oU)(rest:List V_)(a looked:Int)(W:W_)(h:dh W gs 105 (kJ E z rest))(q:0<=a/\a<=1099511627776)(t:0<=looked/\looked<=64)(d:E.s.size<=1099511627776) :
  C_ 138 #[p_ gs,I_ a,I_ looked] W (rV (I_ (nx E a looked)) W):=by
 have l:=bQ 4 h rfl;have p:=bQ 6 h rfl;have f:=bQ 7 h rfl;have u:=yL (a+looked);clear h;by_cases b:a+looked<E.s.size
 .by_cases c:looked=E.most;have e:nx E a looked=3:=by unfold nx;rw[if_pos b,if_pos c]
  have j:(looked == E.most)=true:=by simpa using c
  rotate_left;have e:nx E a looked=0:=by unfold nx;rw[if_pos b,if_neg c]
  have j:(looked == E.most)=false:=by simpa using c
  rotate_left;all_goals
   have i:decide (a+looked<(E.s.size:Int))=true:=dt_ b;rw[e]
  clear c e;rotate_left;focus clear e
  all_goals
   go_enter func138,ntmps138;go_wp2;go_ret;exact⟨rfl,rfl⟩
 .have i:decide (a+looked<(E.s.size:Int))=false:=dn_ b;cases hE:E.ended;have e:nx E a looked=1:=by unfold nx;rw[if_neg b,hE];rfl
  rotate_left;focus have e:nx E a looked=2:=by unfold nx;rw[if_neg b,hE];rfl
  all_goals
   rw[hE]at f;rw[e];clear e;go_enter func138,ntmps138;go_wp2;go_ret;exact⟨rfl,rfl⟩
def Ue(b:Bool)(e r n:Int):List V_:=[.bool b,I_ e,I_ r,I_ n]
def qo(gr gs:Nat)(E:bI)(z:oU)(rest:List V_)(C:bJ)(iJ iD:V_)(w:W_)(e:Ending)(w':W_):Prop:=
 ∃D,qJ E C D/\D.err=0/\D.pos=C.pos/\w.grownBy w' (some gr)/\
  ((e=.returned (.agg #[.bool true,I_ 0,I_ D.rule,I_ D.marked])/\Pu.look E D=.wait/\RM w' gr gs E z rest D iJ iD)\/
   ∃F a,e=.returned (.agg #[.bool false,I_ a,I_ F.rule,I_ F.marked])/\Pu.look E D=.stop F a/\RM w' gr gs E z rest F iJ iD)
theorem Dy:(prog.info? 232).map (·.size)=some 4:=k_
end Go.Proofs.YtmccnmgaoppogabGreat
