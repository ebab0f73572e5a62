import Derived.Test.YtmccnmgaoppogabGreatuKbs
namespace Go.Proofs.YtmccnmgaoppogabGreat
open Pu
set_option linter.all false
open Go.Proofs.Tryz Tryz
set_option maxRecDepth 100000
set_option maxHeartbeats 8000000
open Go.RowKit
variable {W:W_} {ao:Option Addr} {cap i:Nat} {v:V_}
def Br:Fin 4->Nat
 | 0=>3
 | 1=>48
 | 2=>50
 | 3=>67
def xD:Fin 4->Nat
 | 0=>1
 | 1=>3
 | 2=>4
 | 3=>5
def zl:Fin 4->Nat
 | 0=>31
 | 1=>39
 | 2=>40
 | 3=>65
theorem OV:∀k,Br k≠33:=d_
theorem OU:∀k,zl k≠33:=d_
theorem abI:∀j k,Br j≠zl k:=d_
theorem klt_i:∀k,3≠zl k:=d_
theorem ag9:∀j k,j≠k->zl j≠zl k:=d_
theorem aha:∀j k,j≠k->Br j≠Br k:=d_
theorem Vp:∀k,k≠0->Br k≠3:=d_
def dX{α:Type}(f:Fin 4->α)(k:Fin 4)(v:α):Fin 4->α:=fun j=>if j=k then v else f j
theorem jd{α:Type}(f:Fin 4->α)(k:Fin 4)(v:α):dX f k v k=v:=if_pos rfl
theorem jI{α:Type}(f:Fin 4->α){j k:Fin 4}(v:α)(h:j≠k):dX f k v j=f j:=if_neg h
theorem aff{α:Type}(f:Fin 4->α)(k:Fin 4)(v c:α):dX (dX f k v) k c=dX f k c:=by funext j;unfold dX;split <;> rfl
def Part(k:Fin 4)(W:W_)(ao:Option Addr)(cap i:Nat)(v:V_):Prop:=
 (ao=none/\cap=0)\/∃g c,ao=some (a_ g 0)/\dh W g (Br k) (List.replicate (i*xD k) v++c)/\i*xD k+c.length=cap*xD k
def drC(m:Int)(L M:Fin 4->V_):List V_:=[I_ m,L 0,L 1,L 2,L 3,M 0,M 1,M 2,M 3]
theorem ajg(m:Int)(L M:Fin 4->V_)(v:V_):∀k:Fin 4,(drC m L M).set (1+k) v=drC m (dX L k v) M
 | ⟨0,_⟩=>rfl
 | ⟨1,_⟩=>rfl
 | ⟨2,_⟩=>rfl
 | ⟨3,_⟩=>rfl
theorem ajh(m:Int)(L M:Fin 4->V_)(v:V_):∀k:Fin 4,(drC m L M).set (5+k) v=drC m L (dX M k v)
 | ⟨0,_⟩=>rfl
 | ⟨1,_⟩=>rfl
 | ⟨2,_⟩=>rfl
 | ⟨3,_⟩=>rfl
structure wF(gd:Nat)(A:Fin 4->Option Addr)(L M:Fin 4->V_)(Q:W_->Prop):Prop where
 below:∀W W',Q W->B_ W W'->Q W'
 drawer:∀W j u xs,Q W->dh W gd 33 xs->Q (W.setCell (a_ gd j) u)
 part:∀W k g j u xs,Q W->A k=some (a_ g 0)->dh W g (Br k) xs->Q (W.setCell (a_ g j) u)
 lists:∀W W' k n xs,Q W->W.ownsRow gd (zl k) 1 (L k) n xs->W.grownBy W' (L k).ownBlock->Q W'
 numbers:∀W W' k n xs,Q W->W.ownsRow gd 3 1 (M k) n xs->W.grownBy W' (M k).ownBlock->Q W'
structure KT(Q:W_->Prop)(gd:Nat)(A:Fin 4->Option Addr)(cp I:Fin 4->Nat)(V:Fin 4->V_)(m:Int)(L M:Fin 4->V_)(a:Fin 4->Nat)(b:Fin 4->Nat)(xs ys:Fin 4->List V_)(W:W_):Prop where
 q:Q W
 d:dh W gd 33 (drC m L M)
 t:∀k,Part k W (A k) (cp k) (I k) (V k)
 l:∀k,W.ownsRow gd (zl k) 1 (L k) (a k) (xs k)
 n:∀k,W.ownsRow gd 3 1 (M k) (b k) (ys k)
 apn:∀j k,j≠k->∀g,(M j).ownBlock=some g->(M k).ownBlock≠some g
 apt:∀k g,A 0=some (a_ g 0)->(M k).ownBlock≠some g
theorem Part.jr{k:Fin 4}{W':W_}(h:Part k W ao cap i v)(c:∀g xs,ao=some (a_ g 0)->dh W g (Br k) xs->dh W' g (Br k) xs):Part k W' ao cap i v:=by
 rcases h with h | ⟨g,old,h1,h2,h3⟩
 .exact .inl h
 .exact .inr ⟨g,old,h1,c g _ h1 h2,h3⟩
theorem Part.nil{k:Fin 4}(h:Part k W ao cap i v):ao=none->cap=0:=by
 rcases h with h | ⟨g,old,h1,_⟩
 .exact fun _=>h.2
 .intro e;rw[h1]at e;cases e
theorem Part.fB{k:Fin 4}(h:Part k W ao cap i v)(e:i<cap):∃g c,ao=some (a_ g 0)/\dh W g (Br k) (List.replicate (i*xD k) v++c)/\i*xD k+c.length=cap*xD k:=by
 rcases h with ⟨_,d⟩ | d
 .omega
 .exact d
theorem Part.lt{k:Fin 4}(h:Part k W ao cap i v){g:Nat}(e:ao=some (a_ g 0)):g<W.heap.size:=by
 rcases h with ⟨c,_⟩ | ⟨j,f,c,d,_⟩
 .rw [c]at e;cases e
 .rw [c]at e;cases e;exact bP d
def Qm(zs:List V_):Nat->List V_->List V_
 | _,[]=>zs
 | o,v::r=>Qm (zs.set o v) (o+1) r
theorem Qo(v:V_):∀(n q:Nat) (c:List V_),n<=c.length->Qm (List.replicate q v++c) q (List.replicate n v)=List.replicate (q+n) v++c.drop n
 | 0,q,c,_=>by simp[Qm]
 | n+1,q,[],h=>by simp at h
 | n+1,q,x::r,h=>by
  rw[List.replicate_succ,Qm];have e:(List.replicate q v++x::r).set q v=List.replicate (q+1) v++r:=by rw[List.set_append_right _ _ i_,lp_,Nat.sub_self,sz_,<-List.replicate_append_replicate,aa_];rfl
  rw[e,Qo v n (q+1) r (by simpa using h),List.drop_succ_cons,(o_:q+1+n=q+(n+1))]
section
variable {Q:W_->Prop} {gd:Nat} {A:Fin 4->Option Addr} {cp I:Fin 4->Nat} {V:Fin 4->V_} {m:Int} {L M L0 M0:Fin 4->V_} {a b:Fin 4->Nat} {xs ys:Fin 4->List V_} {W W':W_}
theorem KT.below(h:KT Q gd A cp I V m L M a b xs ys W)(d:wF gd A L0 M0 Q)(c:B_ W W'):KT Q gd A cp I V m L M a b xs ys W':=
 ⟨d.below _ _ h.q c,bO h.d c (bP h.d),fun k=>(h.t k).jr (fun _ _ _ b=>bO b c (bP b)),fun k=>bW (h.l k) c dF,fun k=>bW (h.n k) c dF,h.apn,h.apt⟩
theorem KT.ae7(h:KT Q gd A cp I V m L M a b xs ys W)(e:wF gd A L0 M0 Q)(c:Int):KT Q gd A cp I V c L M a b xs ys (W.setCell (a_ gd 0) (I_ c)):=by have d:=gs_ W gd 0 (I_ c);exact⟨e.drawer _ _ _ _ h.q h.d,cK h.d 0 _,fun k=>(h.t k).jr (fun _ _ _ b=>bU b (gD b h.d (OV k)) _ _),fun k=>dO (h.l k) h.d (OU k).symm d,fun k=>dO (h.n k) h.d d_ d,h.apn,h.apt⟩
theorem KT.cell{k:Fin 4}{g:Nat}(r:wF gd A L0 M0 Q)(h:A k=some (a_ g 0))(v:V_):∀(c:List V_) (o:Nat) (zs:List V_) (W:W_),
  (Q W/\dh W gd 33 (drC m L M)/\dh W g (Br k) zs/\(∀j,j≠k->Part j W (A j) (cp j) (I j) (V j))/\(∀j,W.ownsRow gd (zl j) 1 (L j) (a j) (xs j))/\(∀j,W.ownsRow gd 3 1 (M j) (b j) (ys j))/\(∀j k,j≠k->∀g,(M j).ownBlock=some g->(M k).ownBlock≠some g)/\∀k g,A 0=some (a_ g 0)->(M k).ownBlock≠some g)->
  (Q (W.setCells g o c)/\dh (W.setCells g o c) gd 33 (drC m L M)/\dh (W.setCells g o c) g (Br k) (Qm zs o c)/\(∀j,j≠k->Part j (W.setCells g o c) (A j) (cp j) (I j) (V j))/\(∀j,(W.setCells g o c).ownsRow gd (zl j) 1 (L j) (a j) (xs j))/\(∀j,(W.setCells g o c).ownsRow gd 3 1 (M j) (b j) (ys j)))
 | [],_,_,_,z=>⟨z.1,z.2.1,z.2.2.1,z.2.2.2.1,z.2.2.2.2.1,z.2.2.2.2.2.1⟩
 | u::c,o,zs,W,z=>by
  obtain⟨q,d,bk,t,l,n,w,f⟩:=z;have p:=gs_ W g o u;refine KT.cell r h v c (o+1) (zs.set o u) (W.setCell (a_ g o) u) ⟨r.part _ k _ _ _ _ q h bk,bU d (gD d bk (OV k).symm) _ _,cK bk o u,fun j s=>(t j s).jr (fun _ _ _ b=>bU b (gD b bk (aha j k s)) _ _),fun j=>dO (l j) bk (abI k j) p,fun j=>?_,w,f⟩;by_cases e:k=0
  .subst e;exact GJ (n j) p (fun B x y=>f j g h (by cases y;exact x))
  .exact dO (n j) bk (Vp k e) p
theorem KT.fill(h:KT Q gd A cp I V m L M a b xs ys W)(p:wF gd A L0 M0 Q)(k:Fin 4){g:Nat}(d:A k=some (a_ g 0))(l:I k<cp k):KT Q gd A cp (dX I k (I k+1)) V m L M a b xs ys (W.setCells g (I k*xD k) (List.replicate (xD k) (V k))):=by
 obtain⟨s,c,f,n,t⟩:=(h.t k).fB l;rw[d]at f;cases f;have z:=KT.cell p d (V k) (List.replicate (xD k) (V k)) (I k*xD k) _ W ⟨h.q,h.d,n,fun j _=>h.t j,h.l,h.n,h.apn,h.apt⟩;have r:xD k<=c.length:=by have:(I k+1)*xD k<=cp k*xD k:=Nat.mul_le_mul_right _ l;rw[Nat.succ_mul]at this;omega
 refine⟨z.1,z.2.1,fun j=>?_,z.2.2.2.2.1,z.2.2.2.2.2,h.apn,h.apt⟩;by_cases e:j=k
 .subst e;rw[jd];refine .inr ⟨g,c.drop (xD j),d,?_,?_⟩
  .have q:=z.2.2.1;rw[Qo _ _ _ _ r]at q;rw[Nat.succ_mul];exact q
  .rw [List.length_drop,Nat.succ_mul];omega
 .rw [jI _ _ e];exact z.2.2.2.1 j e
theorem KT.Ve{k:Fin 4}(h:KT Q gd A cp (dX I k i) V m L M a b xs ys W)(d:wF gd A L0 M0 Q){g:Nat}(c:A k=some (a_ g 0))(e:i<cp k):KT Q gd A cp (dX I k (i+1)) V m L M a b xs ys (W.setCells g (i*xD k) (List.replicate (xD k) (V k))):=by have:=h.fill d k c (by rw[jd];exact e);rw[jd,aff]at this;exact this
theorem KT.list(h:KT Q gd A cp I V m L M a b xs ys W)(k:Fin 4)(p:Nat)(r:p=1+k){f u:V_}(n:wF gd A L0 M0 Q)(l:L k=L0 k)(d:W.grownBy W' (L k).ownBlock)(q:W'.ownsRow gd (zl k) 1 f (a k+1) (xs k++[u])) :
  KT Q gd A cp I V m (dX L k f) M (dX a k (a k+1)) b (dX xs k (xs k++[u])) ys (W'.setCell (a_ gd p) f):=by
 subst r;have c:=fq (h.l k) h.d (OU k).symm d;have g:=gs_ W' gd (1+k) f;refine⟨n.drawer _ _ _ _ (n.lists _ _ k _ _ h.q (l ▸ h.l k) (l ▸ d)) c,by rw[<-ajg];exact cK c _ f,fun j=>(h.t j).jr (fun _ _ _ b=>?_),fun j=>?_,fun j=>dO (eX (h.n j) (h.l k) (klt_i k) d) c d_ g,h.apn,h.apt⟩
 .have e:=fq (h.l k) b (abI j k) d;exact bU e (gD e c (OV j)) _ _
 .by_cases e:j=k
  .subst e;rw[jd,jd,jd];exact dO q c (OU j).symm g
  .rw [jI _ _ e,jI _ _ e,jI _ _ e];exact dO (eX (h.l j) (h.l k) (ag9 j k e) d) c (OU j).symm g
theorem KT.num(h:KT Q gd A cp I V m L M a b xs ys W)(k:Fin 4)(p:Nat)(D:p=5+k){f u:V_}(x:wF gd A L0 M0 Q)(w:M k=M0 k)(n:W.grownBy W' (M k).ownBlock)(C:W'.ownsRow gd 3 1 f (b k+1) (ys k++[u]))(y:∀g,f.ownBlock=some g->(M k).ownBlock=some g\/W.heap.size<=g) :
  KT Q gd A cp I V m L (dX M k f) a (dX b k (b k+1)) xs (dX ys k (ys k++[u])) (W'.setCell (a_ gd p) f):=by
 subst D;have l:=fq (h.n k) h.d d_ n;have t:=gs_ W' gd (5+k) f;have z:∀j,j≠k->∀g,(M j).ownBlock=some g->f.ownBlock≠some g:=fun j B g e c=>by
  rcases y g c with h3 | h3
  .exact h.apn j k B g e h3
  .have:=(ol_ (h.n j) g e).2;omega
 refine⟨x.drawer _ _ _ _ (x.numbers _ _ k _ _ h.q (w ▸ h.n k) (w ▸ n)) l,by rw[<-ajh];exact cK l _ f,fun j=>(h.t j).jr (fun g E r b=>?_),fun j=>dO (eX (h.l j) (h.n k) (klt_i j).symm n) l (OU j).symm t,fun j=>?_,fun i j d g e c=>?_,fun j g r c=>?_⟩
 .have q:dh W' g (Br j) E:=by
   by_cases e:j=0
   .subst e;exact bR b n (fun c=>h.apt k g r c.symm)
   .exact fq (h.n k) b (Vp j e) n
  exact bU q (gD q l (OV j)) _ _
 .by_cases e:j=k
  .subst e;rw[jd,jd,jd];exact dO C l d_ t
  .rw [jI _ _ e,jI _ _ e,jI _ _ e];exact dO (GJ (h.n j) n (fun g q c=>h.apn j k e g q c.symm)) l d_ t
 .by_cases s:i=k
  .subst s;rw[jd]at e;rw[jI _ _ (fun h=>d h.symm)]at c;exact z j (fun h=>d h.symm) g c e
  .rw [jI _ _ s]at e;by_cases q:j=k
   .subst q;rw[jd]at c;exact z i s g e c
   .rw [jI _ _ q]at c;exact h.apn i j d g e c
 .by_cases q:j=k
  .subst q;rw[jd]at c;rcases y g c with h3 | h3
   .exact h.apt j g r h3
   .have:=(h.t 0).lt r;omega
  .rw [jI _ _ q]at c;exact h.apt j g r c
end
theorem Hq{P:Program}{w:W_}{d:Array Oper}{o:Oper}{a:Act}{K:Act->W_->Prop}{Q:Exit->Act->W_->Prop}{E:Prop}(e:o.guard=none)(f:TypeId)(x y:Operand)(k:o.op=.store f x y)
  (b c:Nat) (cells:Array V_) (p:a.eval x=.pointer (some (a_ b c))) (q:a.eval y=.agg cells) (l:w.there b c cells.size) (j:(P.info? f).map (·.size)=some cells.size) (g:cells.all (·.oneCell')=true)
  (h:K (a.put o.dst undef) (w.setCells b c cells.toList)):if Region.wanted o (yielded d a.tmps)=true then Oper.wp P o a w K Q else E:=by
 have n:Region.wanted o (yielded d a.tmps)=true:=by simp[Region.wanted,e]
 rw[if_pos n];exact wp_store_mid f x y k b c cells p q l j g h
def vv(m:Int):Fin 4->V_
 | 0=>I_ (m+1)
 | 1=>I_ (m+1+1)
 | 2=>I_ (m+1+1+1)
 | 3=>I_ (m+1)
abbrev aS:Fin 4->Nat:=fun _=>0
def adF(Q:W_->Prop)(gd:Nat)(A:Fin 4->Option Addr)(cp:Fin 4->Nat)(m:Int)(L M:Fin 4->V_)(a b:Fin 4->Nat)(xs ys:Fin 4->List V_)(e:Ending)(w':W_):Prop:=
 e=.returned (.tuple #[])/\∃d c,KT Q gd A cp (dX aS 3 (cp 3)) (vv m) (m+1) (dX L 3 d) (dX M 3 c) (dX a 3 (a 3+1)) (dX b 3 (b 3+1)) (dX xs 3 (xs 3++[.slice (A 3) (cp 3) (cp 3)])) (dX ys 3 (ys 3++[I_ (m+1)])) w'/\∀g,c.ownBlock=some g->(M 3).ownBlock=some g\/∃W,Q W/\W.heap.size<=g
theorem Gg(Q:W_->Prop)(gd:Nat)(A:Fin 4->Option Addr)(ao:Option Addr)(len cap:Nat)(cp:Fin 4->Nat)(m:Int)(L M:Fin 4->V_)(a b:Fin 4->Nat)(xs ys:Fin 4->List V_)(w:W_)(N:wF gd A L M Q)(C:A 3=ao)(J:cp 3=cap)(hm:0<=m/\m<=1099511627776)(hcap:cap<=9223372036854775807)(hk:a 3<=1099511627776/\b 3<=1099511627776)
  (h:KT Q gd A cp aS (vv m) m L M a b xs ys w) :
  Calls prog 31 #[p_ gd,.slice ao len cap] w (adF Q gd A cp m L M a b xs ys):=by
 obtain⟨i3,O,Zx,G,H⟩:=ip_ info3;obtain⟨it,T,X,Y,Z⟩:=ip_ inft65;have f:=fun w=>Ev 65 67 5 underlying65 Hl ao len cap (by have:=(h.t 3).nil;rw[C,J]at this;exact this) w;have c:Hid (KT Q gd A cp (dX aS 3 0) (vv m) (m+1) L M a b xs ys (w.setCell (a_ gd 0) (I_ (m+1)))):=by
  have e:dX aS 3 0=aS:=by funext j;unfold dX;split <;> rfl
  show KT _ _ _ _ _ _ _ _ _ _ _ _ _ _;rw[e];exact h.ae7 N (m+1)
 have p:=bL N;have q:=bQ 0 h.d rfl;have d:=bM h.d 0;clear h N;go_in;go_wp2_with fail;clear q d f;generalize w.setCell (a_ gd 0) (I_ (m+1))=W0 at *;go_loopg [5] cap (fun gk d wr=>∃i:Nat,i<=cap/\d=I_ i/\gk=cap-i/\KT Q gd A cp (dX aS 3 i) (vv m) (m+1) L M a b xs ys wr);exact⟨0,zl_ _,rfl,rfl,c.o⟩;clear c;obtain⟨i,hi,rfl,rfl,c⟩:=hrel;have B:=bL c;by_cases U:i<cap
 .obtain⟨g,k,rfl,s,r⟩:∃g k,ao=some (a_ g 0)/\dh wr g 67 (List.replicate (i*5) (I_ (m+1))++k)/\i*5+k.length=cap*5:=by have:=(c.t 3).fB (o_:i<cp 3);rw[C,J]at this;exact this
  have q:=bQ 0 c.d rfl;have l:Hid (wr.drew.there g (i*5) 5):=fun j d=>⟨by
   have z:wr.cell? (a_ g (i*5+j))=some _:=bN s (gg_ (by simp;omega));show (wr.cell? (a_ g (i*5+j))).isSome=true;rw[z];rfl,bM s (i*5+j)⟩
  have d:g≠gd:=gD s c.d d_;have uC:gd≠g:=fun e=>d e.symm;have n:(i:Int)<cap:=o_;have f:Hid (KT Q gd A cp (dX aS 3 (i+1)) (vv m) (m+1) L M a b xs ys (wr.drew.setCells g (i*5) [(I_ (m+1)),(I_ (m+1)),(I_ (m+1)),(I_ (m+1)),(I_ (m+1))])):=(B.o.below p.o (Br_ _ _).drew).Ve p.o C o_;have u:=bL (bN (j:=0) f.o.d rfl);clear c s r;go_wp2_with fail;have z:wr.drew.cell? (a_ gd 0)=some (I_ (m+1)):=q;refine wd_ (S:=fun e=>e.cell? (a_ gd 0)=some (I_ (m+1))) k_ z (fun D=>?_);refine cB 0 ?_;refine cB 1 ?_;refine cB 2 ?_;refine cB 3 ?_;refine cB 4 ?_;refine cB 5 ?_;refine cB 6 ?_;refine cB 7 ?_;refine cB 8 ?_;refine cB 9 ?_;refine cB 10 ?_;refine cB 11 ?_;refine cB 12 ?_;refine cB 13 ?_;refine cB 14 ?_;refine cB 15 ?_;refine cB 16 ?_;refine cB 17 ?_;refine cB 18 ?_;refine cB 19 ?_;refine cB 20 ?_;refine cB 21 ?_;refine cB 22 ?_;refine cB 23 ?_
  try simp only[gt_,List.getElem_cons_succ,cz_,sb_,sz_,ss_]
  refine fF 24 (fun K c=>?_);refine Hq rfl 67 (.tmp 46) (.tmp 45) rfl g (i*5) #[(I_ (m+1)),(I_ (m+1)),(I_ (m+1)),(I_ (m+1)),(I_ (m+1))] rfl rfl l.o Hl (by simp[Value.oneCell']) ?_;refine c.out _ _ u.o (fun F=>?_);clear c K;refine wpAnyH_done k_ ?_ _;clear z u D F q l;generalize wr.drew.setCells g (i*5) #[(I_ (m+1)),(I_ (m+1)),(I_ (m+1)),(I_ (m+1)),(I_ (m+1))].toList=e at *;go_wp2;go_roundg (cap-(i+1));exact⟨i+1,o_,by go_num,rfl,f.o⟩;omega
 .have R:i=cap:=o_;subst R;have q:=bQ 4 c.d rfl;have l:=nI i i;have x:=bP c.d;have d:gd≠wr.heap.size:=o_;have uC:wr.heap.size≠gd:=o_;clear c U hi;go_upto_region 7 with (at_builtin;refine wo_ _ rfl (.tmp 51) (.tmp 53) 30 rfl gd 65 it n_ 1 24 underlying30 T X Y Z rfl d_ (L 3) (a 3) (xs 3) rfl (oa_ (B.o.l 3) _) (a_ wr.heap.size 0) 1 1 [.slice ao i i] rfl rfl (jc rfl) (by intro u e;simp at e;subst e;rfl) (by unfold maxLen;omega) o_ (by simp;omega) ?_;intro v2 wa r n _;obtain⟨aq,cq,rfl,u,y⟩:=lG r;have e:=(B.o.below p.o (kM (c_ #[.slice ao i i] 65)));have g:=fq (e.l 3) e.d d_ n;have k:=bN (j:=4) g rfl;have z:=bM g 4);have f:=bL (e.list 3 4 rfl p.o rfl n r);clear e g k z r n B q l d uC x u y;generalize wa.setCell (a_ gd 4) (.slice aq (a 3+1) cq)=k at *;have q:=bQ 0 f.o.d rfl;have d8:=bQ 8 f.o.d rfl;have gl2:=bP f.o.d;have d:gd≠k.heap.size:=o_;have uC:k.heap.size≠gd:=o_;have z:k.drew.cell? (a_ gd 0)=some (I_ (m+1)):=q;refine wd_ (S:=fun e=>e.cell? (a_ gd 0)=some (I_ (m+1))) k_ z (fun D=>?_);refine cB 0 ?_;refine cB 1 ?_;refine cB 2 ?_;refine cB 3 ?_;refine cB 5 ?_;refine cB 6 ?_;refine cB 7 ?_;refine cB 8 ?_;refine wpAnyH_ready (rs:=[4,9]) k_ i_ ?_;have l:=bL (f.o.below p.o ((kM (c_ #[I_ (m+1)] 3)).drew));have u:(k.alloc (c_ #[I_ (m+1)] 3)).drew.cell? (a_ gd 0)=some (I_ (m+1)):=bN (j:=0) l.o.d rfl;refine AllReadyH.cons rfl (fun K c=>?_) (AllReadyH.cons rfl (fun K c=>?_) AllReadyH.nil);focus
   go_simp;refine c.out _ _ D (fun F=>?_);clear c K
   try simp only[Act.put,sb_]
   refine fF 9 (fun K c=>?_)
  rotate_left;focus
   have c5':=bN (j:=8) l.o.d rfl;go_simp;refine c.out _ _ u (fun F=>?_);clear c K
   try simp only[Act.put,sb_]
   refine fF 4 (fun K c=>?_)
  all_goals
   go_simp;refine c.out _ _ u (fun lT=>?_);clear c K
   try simp only[Act.put,sb_]
   refine fF 10 (fun K c=>?_);refine sa_ _ r_ _ _ _ r_ gd 3 i3 _ 1 8 underlying31 O Zx G H rfl o_ (M 3) (b 3) (ys 3) r_ (l.o.n 3) (a_ k.heap.size 0) 1 1 [I_ (m+1)] r_ r_ (World.news_of_block (cs:=#[I_ (m+1)]) (t:=3) (fr:=(0,0)) (hn_ _ _)) (by simp[Value.oneCell']) o_ (by unfold maxLen;omega) o_ (by simp;omega) (k.heap.size+1) i_ ?_;intro x E w2 r n e kg;have HA:=bL e;clear e;have y:=fq (l.o.n 3) l.o.d d_ n;have Te:=cK y 8 (s_ x (b 3+1) E);refine c.out _ _ (bN (j:=0) y rfl) (fun kT=>?_);have k5:=bQ 8 y rfl;have Oh:=bM y 8;clear c K
   try simp only[Act.put,sb_]
   refine cB 11 ?_;refine cB 12 ?_;refine fF 13 (fun K c=>?_);go_simp;refine c.out _ _ (bN (j:=0) Te rfl) (fun nX=>?_);clear c K;refine wpAnyH_done k_ ?_ _;have K4:=bL (l.o.num 3 8 rfl p.o rfl n r (fun g e=>by cases e;rcases HA.o with h | h;exact .inl h;exact .inr (by show (k.alloc _).heap.size<=x;rw[wa_];omega)));clear kT nX y Te k5 Oh r n l;generalize w2.setCell (a_ gd 8) (s_ x (b 3+1) E)=e at *;go_wp2;go_end0;refine⟨rfl,.slice aq (a 3+1) cq,s_ x (b 3+1) E,by rw[C,J];exact K4.o,fun b s=>?_⟩;cases s;rcases HA.o with h | h
   .exact .inl h
   .exact .inr ⟨k,f.o.q,by show _<=x;omega⟩
end Go.Proofs.YtmccnmgaoppogabGreat
