import Derived.Test.YtmccnmgaoppogabGreatuKaw
import Derived.Test.YtmccnmgaoppogabGreatuHG
namespace Go.Proofs.YtmccnmgaoppogabGreat
open Pu
set_option linter.all false
variable {w w':W_} {v vc ve vr:V_} {base cap g i n t:Nat} {f:Nat->Int} {s:Y_} {ys:List V_} {row:Option Nat} {depth fault:Int} {ended:Bool}
namespace Pu
def GH(len p:Nat):Nat:=if p<len then p+1 else len+1
def Bp(w:List Nat):Nat->List Nat->Nat->Prop
 | p,[],q=>q=p
 | p,c::u,q=>c<256/\(∀x,w[p]?=some x->c=x)/\Bp w (GH w.length p) u q
theorem Bp.app{w:List Nat}:∀{u v:List Nat} {p q r:Nat},Bp w p u q->Bp w q v r->Bp w p (u++v) r:=by
 intro u;induction u with
 | nil=>intro v p q r d h;have e:q=p:=d;subst e;exact h
 | cons c u j=>intro v p q r d h;exact⟨d.1,d.2.1,j d.2.2 h⟩
theorem Bp.parts{w:List Nat}:∀{u v:List Nat} {p r:Nat},Bp w p (u++v) r->∃q,Bp w p u q/\Bp w q v r:=by
 intro u;induction u with
 | nil=>intro v p r h;exact⟨p,rfl,h⟩
 | cons c u j=>intro v p r h;obtain⟨q,d,e⟩:=j h.2.2;exact⟨q,⟨h.1,h.2.1,d⟩,e⟩
theorem Bp.beyond{w:List Nat}:∀{u:List Nat} {p q:Nat},w.length<p->Bp w p u q->u≠[]->q=w.length+1:=by
 intro u;induction u with
 | nil=>intro p q _ _ h;exact absurd rfl h
 | cons c u k=>
  intro p q l h _;have e:GH w.length p=w.length+1:=by unfold GH;rw[if_neg o_]
  have j:=h.2.2;rw[e]at j;cases u with
  | nil=>exact j
  | cons d u=>exact k o_ j i_
theorem Bp.ahE{w:List Nat}:∀{u:List Nat} {p:Nat},p<=w.length->Bp w p u w.length->u=w.drop p:=by
 intro u;induction u with
 | nil=>intro p _ h;have e:w.length=p:=h;rw[<-e,List.drop_length]
 | cons c u l=>
  intro p r h;by_cases k:p<w.length
  .have j:=h.2.2;rw[show GH w.length p=p+1 by unfold GH;rw[if_pos k]]at j;rw[List.drop_eq_getElem_cons k,<-l o_ j,h.2.1 _ (gg_ k)]
  .exfalso;have j:=h.2.2;rw[show GH w.length p=w.length+1 by unfold GH;rw[if_neg k]]at j;cases u with
   | nil=>have e:w.length=w.length+1:=j;omega
   | cons d u=>have:=j.beyond o_ i_;omega
theorem Bp.ab9{w:List Nat}(r:∀c∈w,c<256):∀{u:List Nat} {p:Nat},p<=w.length->u=w.drop p->Bp w p u w.length:=by
 intro u;induction u with
 | nil=>
  intro p l h;have:(w.drop p).length=0:=by rw[<-h];rfl
  rw[List.length_drop]at this;show w.length=p;omega
 | cons c u y=>
  intro p l h;have d:p<w.length:=by
   have:(w.drop p).length=u.length+1:=by rw[<-h];rfl
   rw[List.length_drop]at this;omega
  rw[List.drop_eq_getElem_cons d]at h;have e:=(List.cons.inj h).1;have k:=(List.cons.inj h).2;refine⟨by rw[e];exact r _ (List.getElem_mem d),fun x j=>?_,?_⟩
  .rw [gg_ d]at j;rw[e];exact oi_ j
  .rw [show GH w.length p=p+1 by unfold GH;rw[if_pos d]];exact y o_ k
theorem Bp.afe{w:List Nat}:∀{u:List Nat} {p:Nat},p<=w.length->Bp w p u (w.length+1)->∃v,v≠[]/\(∀c∈v,c<256)/\u=w.drop p++v:=by
 have j:∀{u:List Nat} {p q:Nat},Bp w p u q->∀c∈u,c<256:=by
  intro u;induction u with
  | nil=>intro p q _ c e;simp at e
  | cons d u k=>
   intro p q h c e;rcases mm_.1 e with rfl | e
   .exact h.1
   .exact k h.2.2 c e
 intro u;induction u with
 | nil=>intro p r h;have e:w.length+1=p:=h;omega
 | cons c u k=>
  intro p r h;by_cases d:p<w.length
  .have l:=h.2.2;rw[show GH w.length p=p+1 by unfold GH;rw[if_pos d]]at l;obtain⟨v,x,y,z⟩:=k o_ l;refine⟨v,x,y,?_⟩;rw[List.drop_eq_getElem_cons d,List.cons_append,<-z,h.2.1 _ (gg_ d)]
  .have e:p=w.length:=o_;refine⟨c::u,i_,j h,?_⟩;rw[e,List.drop_length];rfl
theorem Bp.aeO{w:List Nat}(r:∀c∈w,c<256){v:List Nat}(k:v≠[])(e:∀c∈v,c<256):Bp w 0 (w++v) (w.length+1):=by
 refine (Bp.ab9 r (u:=w) (zl_ _) rfl).app (q:=w.length) ?_;have j:∀{v:List Nat} {p:Nat},w.length<=p->v≠[]->(∀c∈v,c<256)->Bp w p v (w.length+1):=by
  intro v;induction v with
  | nil=>intro p _ h;exact absurd rfl h
  | cons c v z=>
   intro p A _ e;refine⟨e c (ms_ ..),fun x y=>?_,?_⟩
   .have:=(ge_.1 y).1;omega
   .rw [show GH w.length p=w.length+1 by unfold GH;rw[if_neg o_]];cases v with
    | nil=>rfl
    | cons d v=>exact z o_ i_ (fun c l=>e c (mc_ _ l))
 exact j dF k e
theorem CZ{a:aM}{v u:List Nat}(c:M (.star a) v)(h:M a u):M (.star a) (v++u):=by
 generalize e:aM.star a=x at c;induction c with
 | uh=>cases e;have:=M.vZ h (M.uh);simpa using this
 | vZ d k _ j=>cases e;rw[aa_];exact .vZ d (j rfl)
 | pl _=>cases e
 | cat _ _=>cases e
 | Il _=>cases e
 | Im _=>cases e
 | plus _ _=>cases e
 | LV=>cases e
 | LY _=>cases e
theorem Nq{a:aM}{v u:List Nat}(h:M (.star a) v)(c:M a u):M (.plus a) (v++u):=by
 cases h with
 | uh=>have:=M.plus c (M.uh);simpa using this
 | vZ d e=>rw[aa_];exact .plus d (CZ e c)
def oG(w:List Nat)(x:aM)(B:Nat->Prop)(q:Nat):Prop:=∃p u,B p/\M x u/\Bp w p u q
section
variable {w:List Nat} {a b:aM} {B:Nat->Prop} {q:Nat}
theorem oG.cat(h:oG w b (oG w a B) q):oG w (.cat a b) B q:=by obtain⟨r,v,⟨p,u,c,d,e⟩,j,k⟩:=h;exact⟨p,u++v,c,.cat d j,e.app k⟩
theorem oG.Il(h:oG w a B q):oG w (.alt a b) B q:=by obtain⟨p,u,c,d,e⟩:=h;exact⟨p,u,c,.Il d,e⟩
theorem oG.Im(h:oG w b B q):oG w (.alt a b) B q:=by obtain⟨p,u,c,d,e⟩:=h;exact⟨p,u,c,.Im d,e⟩
theorem oG.uh(h:B q):oG w (.star a) B q:=⟨q,[],h,.uh,rfl⟩
theorem oG.vZ(h:oG w a (oG w (.star a) B) q):oG w (.star a) B q:=by obtain⟨r,v,⟨p,u,c,d,e⟩,j,k⟩:=h;exact⟨p,u++v,c,CZ d j,e.app k⟩
theorem oG.plus(h:oG w a (oG w (.star a) B) q):oG w (.plus a) B q:=by obtain⟨r,v,⟨p,u,c,d,e⟩,j,k⟩:=h;exact⟨p,u++v,c,Nq d j,e.app k⟩
theorem oG.LV(h:B q):oG w (.opt a) B q:=⟨q,[],h,.LV,rfl⟩
theorem oG.LY(h:oG w a B q):oG w (.opt a) B q:=by obtain⟨p,u,c,d,e⟩:=h;exact⟨p,u,c,.LY d,e⟩
end
def lJ(w:List Nat):aM->Nat->(Nat->Prop)->Nat->Nat->Prop
 | .pl _,m,B,j,p=>j=m/\B p
 | .cat a b,m,B,j,p=>(j=m+a.size+b.size/\B p)\/lJ w a m B j p\/lJ w b (m+a.size) (oG w a B) j p
 | .alt a b,m,B,j,p=>(j=m+a.size+b.size/\B p)\/lJ w a m B j p\/lJ w b (m+a.size) B j p
 | .star a,m,B,j,p=>(j=m+a.size/\B p)\/lJ w a m (oG w (.star a) B) j p
 | .plus a,m,B,j,p=>(j=m+a.size/\B p)\/lJ w a m (oG w (.star a) B) j p
 | .opt a,m,B,j,p=>(j=m+a.size/\B p)\/lJ w a m B j p
def lK(w:List Nat):aM->Nat->(Nat->Prop)->Nat->Nat->Prop
 | .pl T,m,B,j,q=>j=m/\oG w (.pl T) B q
 | .cat a b,m,B,j,q=>(j=m+a.size+b.size/\oG w (.cat a b) B q)\/lK w a m B j q\/lK w b (m+a.size) (oG w a B) j q
 | .alt a b,m,B,j,q=>(j=m+a.size+b.size/\oG w (.alt a b) B q)\/lK w a m B j q\/lK w b (m+a.size) B j q
 | .star a,m,B,j,q=>(j=m+a.size/\oG w (.star a) B q)\/lK w a m (oG w (.star a) B) j q
 | .plus a,m,B,j,q=>(j=m+a.size/\oG w (.plus a) B q)\/lK w a m (oG w (.star a) B) j q
 | .opt a,m,B,j,q=>(j=m+a.size/\oG w (.opt a) B q)\/lK w a m B j q
section
variable {w:List Nat}
theorem rz:∀(x:aM) {m:Nat} {B:Nat->Prop} {j p:Nat},lJ w x m B j p->m<=j/\j<m+x.size:=by
 intro x;induction x with
 | pl T=>intro m B j p h;simp only[aM.size];have:=h.1;omega
 | cat a b c d=>
  intro m B j p h;simp only[aM.size];rcases h with ⟨h,_⟩ | h | h
  .omega
  .have:=c h;omega
  .have:=d h;omega
 | alt a b c d=>
  intro m B j p h;simp only[aM.size];rcases h with ⟨h,_⟩ | h | h
  .omega
  .have:=c h;omega
  .have:=d h;omega
 | star a e=>?_
 | plus a e=>?_
 | opt a e=>?_
 all_goals
  intro m B j p h;simp only[aM.size];rcases h with ⟨h,_⟩ | h
  .omega
  .have:=e h;omega
theorem qH:∀(x:aM) {m:Nat} {B:Nat->Prop} {j p:Nat},lK w x m B j p->m<=j/\j<m+x.size:=by
 intro x;induction x with
 | pl T=>intro m B j p h;simp only[aM.size];have:=h.1;omega
 | cat a b c d=>
  intro m B j p h;simp only[aM.size];rcases h with ⟨h,_⟩ | h | h
  .omega
  .have:=c h;omega
  .have:=d h;omega
 | alt a b c d=>
  intro m B j p h;simp only[aM.size];rcases h with ⟨h,_⟩ | h | h
  .omega
  .have:=c h;omega
  .have:=d h;omega
 | star a e=>?_
 | plus a e=>?_
 | opt a e=>?_
 all_goals
  intro m B j p h;simp only[aM.size];rcases h with ⟨h,_⟩ | h
  .omega
  .have:=e h;omega
theorem VD{P Q R:Prop}(c:¬P)(d:¬R):(P\/Q\/R)↔Q:=⟨fun h=>h.elim (fun h=>absurd h c) (fun h=>h.elim id (fun h=>absurd h d)),fun h=>.inr (.inl h)⟩
theorem VE{P Q R:Prop}(c:¬P)(d:¬Q):(P\/Q\/R)↔R:=⟨fun h=>h.elim (fun h=>absurd h c) (fun h=>h.elim (fun h=>absurd h d) id),fun h=>.inr (.inr h)⟩
theorem afY{P Q R:Prop}(c:¬Q)(d:¬R):(P\/Q\/R)↔P:=⟨fun h=>h.elim id (fun h=>h.elim (fun h=>absurd h c) (fun h=>absurd h d)),fun h=>.inl h⟩
theorem JO{P Q:Prop}(c:¬P):(P\/Q)↔Q:=⟨fun h=>h.elim (fun h=>absurd h c) id,fun h=>.inr h⟩
theorem JP{P Q:Prop}(c:¬Q):(P\/Q)↔P:=⟨fun h=>h.elim id (fun h=>absurd h c),fun h=>.inl h⟩
theorem kz(x:aM){m:Nat}{B:Nat->Prop}{p:Nat}:lJ w x m B (m+x.size-1) p↔B p:=by
 cases x with
 | pl T=>simp[lJ,aM.size]
 | cat a b=>?_
 | alt a b=>?_
 | star a=>exact (JP (fun h=>by have:=rz a h;simp only[aM.size]at this;omega)).trans ⟨fun h=>h.2,fun h=>⟨by simp only[aM.size];omega,h⟩⟩
 | plus a=>exact (JP (fun h=>by have:=rz a h;simp only[aM.size]at this;omega)).trans ⟨fun h=>h.2,fun h=>⟨by simp only[aM.size];omega,h⟩⟩
 | opt a=>exact (JP (fun h=>by have:=rz a h;simp only[aM.size]at this;omega)).trans ⟨fun h=>h.2,fun h=>⟨by simp only[aM.size];omega,h⟩⟩
 all_goals
  refine (afY (fun h=>?_) (fun h=>?_)).trans ⟨fun h=>h.2,fun h=>⟨by simp only[aM.size];omega,h⟩⟩
  .have c:=rz a h;have:=b.size_pos;simp only[aM.size]at c;omega
  .have:=rz b h;simp only[aM.size]at this;omega
theorem kD(x:aM){m:Nat}{B:Nat->Prop}{q:Nat}:lK w x m B (m+x.size-1) q↔oG w x B q:=by
 cases x with
 | pl T=>simp[lK,aM.size]
 | cat a b=>?_
 | alt a b=>?_
 | star a=>exact (JP (fun h=>by have:=qH a h;simp only[aM.size]at this;omega)).trans ⟨fun h=>h.2,fun h=>⟨by simp only[aM.size];omega,h⟩⟩
 | plus a=>exact (JP (fun h=>by have:=qH a h;simp only[aM.size]at this;omega)).trans ⟨fun h=>h.2,fun h=>⟨by simp only[aM.size];omega,h⟩⟩
 | opt a=>exact (JP (fun h=>by have:=qH a h;simp only[aM.size]at this;omega)).trans ⟨fun h=>h.2,fun h=>⟨by simp only[aM.size];omega,h⟩⟩
 all_goals
  refine (afY (fun h=>?_) (fun h=>?_)).trans ⟨fun h=>h.2,fun h=>⟨by simp only[aM.size];omega,h⟩⟩
  .have c:=qH a h;have:=b.size_pos;simp only[aM.size]at c;omega
  .have:=qH b h;simp only[aM.size]at this;omega
end
theorem Na:∀(x:aM) {m k:Nat} {y:aF},(nodes x m)[k]?=some y->y.kind≠1->(m<=y.l/\y.l<m+k)/\(y.kind=2\/y.kind=3->m<=y.r/\y.r<m+k):=by
 intro x;have two:∀(a b:aM) (c:Nat) (m k:Nat) (y:aF),(c=2\/c=3)->(∀{m k:Nat} {y:aF},(nodes a m)[k]?=some y->y.kind≠1->(m<=y.l/\y.l<m+k)/\(y.kind=2\/y.kind=3->m<=y.r/\y.r<m+k))->(∀{m k:Nat} {y:aF},(nodes b m)[k]?=some y->y.kind≠1->(m<=y.l/\y.l<m+k)/\(y.kind=2\/y.kind=3->m<=y.r/\y.r<m+k))->
   (nodes a m++nodes b (m+a.size)++[⟨c,m+a.size-1,m+a.size+b.size-1,dW⟩])[k]?=some y->y.kind≠1->(m<=y.l/\y.l<m+k)/\(y.kind=2\/y.kind=3->m<=y.r/\y.r<m+k):=by
  intro a b c m k y _ j l h d;have pa:=a.size_pos;have A:=b.size_pos;by_cases p:k<a.size
  .rw [aa_,al_ (by rw[bT];exact p)]at h;exact j h d
  .by_cases z:k<a.size+b.size
   .rw [aa_,ar_ (by rw[bT];omega),bT,al_ (by rw[bT];omega)]at h;have:=l h d;refine⟨o_,fun r=>?_⟩;have:=this.2 r;omega
   .have u:=(ge_.1 h).1;simp only[la_,bT,lc_,ln_]at u;have e:k=a.size+b.size:=o_;subst e;rw[ar_ (by simp[bT])]at h;simp[bT]at h;subst h;exact⟨⟨by show m<=m+a.size-1;omega,by show m+a.size-1<_;omega⟩,fun _=>⟨by show m<=m+a.size+b.size-1;omega,by show m+a.size+b.size-1<_;omega⟩⟩
 have one:∀(a:aM) (c:Nat) (m k:Nat) (y:aF),(c=4\/c=5\/c=6)->(∀{m k:Nat} {y:aF},(nodes a m)[k]?=some y->y.kind≠1->(m<=y.l/\y.l<m+k)/\(y.kind=2\/y.kind=3->m<=y.r/\y.r<m+k))->
   (nodes a m++[⟨c,m+a.size-1,0,dW⟩])[k]?=some y->y.kind≠1->(m<=y.l/\y.l<m+k)/\(y.kind=2\/y.kind=3->m<=y.r/\y.r<m+k):=by
  intro a c m k y z j h d;have pa:=a.size_pos;by_cases p:k<a.size
  .rw [al_ (by rw[bT];exact p)]at h;exact j h d
  .have u:=(ge_.1 h).1;simp only[la_,bT,lc_,ln_]at u;have e:k=a.size:=o_;subst e;rw[ar_ (by rw[bT];omega)]at h;simp[bT]at h;subst h;exact⟨⟨by show m<=m+a.size-1;omega,by show m+a.size-1<_;omega⟩,fun r=>by have:c=2\/c=3:=r;omega⟩
 induction x with
 | pl T=>
  intro m k y h d;cases k with
  | zero=>simp[nodes]at h;subst h;exact absurd rfl d
  | succ k=>simp[nodes]at h
 | cat a b j l=>intro m k y h d;exact two a b 2 m k y (.inl rfl) j l h d
 | alt a b j l=>intro m k y h d;exact two a b 3 m k y (.inr rfl) j l h d
 | star a e=>intro m k y h d;exact one a 4 m k y (.inl rfl) e h d
 | plus a e=>intro m k y h d;exact one a 5 m k y (.inr (.inl rfl)) e h d
 | opt a e=>intro m k y h d;exact one a 6 m k y (.inr (.inr rfl)) e h d
end Pu
namespace Pu
structure Ik(w:List Nat)(PB PE:Nat->Nat->Prop)(j:Nat)(y:aF):Prop where
 c1:y.kind≠1->∀p,PB j p->PB y.l p
 c2:y.kind=2->∀p,PE y.l p->PB y.r p
 c3:y.kind=3->∀p,PB j p->PB y.r p
 c4:y.kind=4\/y.kind=5->∀p,PE y.l p->PB y.l p
 e1:y.kind=1->∀p c,PB j p->c<256->y.inn c=true->(∀z,w[p]?=some z->c=z)->PE j (GH w.length p)
 e2:y.kind=2\/y.kind=3->∀q,PE y.r q->PE j q
 e0:y.kind=4\/y.kind=6->∀q,PB j q->PE j q
 eL:y.kind≠1->y.kind≠2->∀q,PE y.l q->PE j q
section
variable {w:List Nat}
theorem Ik.iff{PB PE d e:Nat->Nat->Prop}{j:Nat}{y:aF}(h:Ik w PB PE j y)(r:∀p,(PB j p↔d j p)/\(PE j p↔e j p))(u:y.kind≠1->∀p,(PB y.l p↔d y.l p)/\(PE y.l p↔e y.l p))(z:y.kind=2\/y.kind=3->∀p,(PB y.r p↔d y.r p)/\(PE y.r p↔e y.r p)):Ik w d e j y:=
 ⟨fun k p l=>(u k p).1.1 (h.c1 k p ((r p).1.2 l)),fun k p l=>(z (.inl k) p).1.1 (h.c2 k p ((u o_ p).2.2 l)),fun k p l=>(z (.inr k) p).1.1 (h.c3 k p ((r p).1.2 l)),
  fun k p l=>(u o_ p).1.1 (h.c4 k p ((u o_ p).2.2 l)),fun k p c l C D E=>(r _).2.1 (h.e1 k p c ((r p).1.2 l) C D E),fun k q x=>(r q).2.1 (h.e2 k q ((z k q).2.2 x)),
  fun k q x=>(r q).2.1 (h.e0 k q ((r q).1.2 x)),fun A F q x=>(r q).2.1 (h.eL A F q ((u A q).2.2 x))⟩
theorem acu:∀(x:aM) {m k:Nat} {y:aF} {B:Nat->Prop},(nodes x m)[k]?=some y->Ik w (lJ w x m B) (lK w x m B) (m+k) y:=by
 intro x;induction x with
 | pl T=>
  intro m k y B h;cases k with
  | succ k=>simp[nodes]at h
  | zero=>simp[nodes]at h;subst h;refine⟨fun k=>absurd rfl k,fun k=>(by cases k),fun k=>(by cases k),fun k=>(by rcases k with k | k <;> cases k),fun _ p c d e r j=>⟨rfl,p,[c],d.2,.pl r,e,j,rfl⟩,fun k=>(by rcases k with k | k <;> cases k),fun k=>(by rcases k with k | k <;> cases k),fun k=>absurd rfl k⟩
 | cat a b E F=>?_
 | alt a b E F=>?_
 | star a G=>?_
 | plus a G=>?_
 | opt a G=>?_
 all_goals
  intro m k y B h;have pa:=a.size_pos
 .have K:=b.size_pos;have h:(nodes a m++nodes b (m+a.size)++[⟨2,m+a.size-1,m+a.size+b.size-1,dW⟩])[k]?=some y:=h;have c:∀j p,m<=j->j<m+a.size->(lJ w a m B j p↔lJ w (.cat a b) m B j p)/\(lK w a m B j p↔lK w (.cat a b) m B j p):=fun j p e r=>
   ⟨(VD (fun h=>o_) (fun h=>by have:=rz b h;omega)).symm,(VD (fun h=>o_) (fun h=>by have:=qH b h;omega)).symm⟩
  have l:∀j p,m+a.size<=j->j<m+a.size+b.size->(lJ w b (m+a.size) (oG w a B) j p↔lJ w (.cat a b) m B j p)/\(lK w b (m+a.size) (oG w a B) j p↔lK w (.cat a b) m B j p):=fun j p e r=>
   ⟨(VE (fun h=>o_) (fun h=>by have:=rz a h;omega)).symm,(VE (fun h=>o_) (fun h=>by have:=qH a h;omega)).symm⟩
  by_cases C:k<a.size
  .rw [aa_,al_ (by rw[bT];exact C)]at h;refine (E h).iff (fun p=>c _ p o_ o_) (fun d p=>?_) (fun d p=>?_)
   .have:=(Na a h d).1;exact c _ p this.1 o_
   .have:=(Na a h o_).2 d;exact c _ p this.1 o_
  .by_cases J:k<a.size+b.size
   .rw [aa_,ar_ (by rw[bT];omega),bT,al_ (by rw[bT];omega)]at h;have:=F (B:=oG w a B) h;rw[(o_:m+a.size+(k-a.size)=m+k)]at this;refine this.iff (fun p=>l _ p o_ o_) (fun d p=>?_) (fun d p=>?_)
    .have:=(Na b h d).1;exact l _ p this.1 o_
    .have:=(Na b h o_).2 d;exact l _ p this.1 o_
   .have D:=(ge_.1 h).1;simp only[la_,bT,lc_,ln_]at D;have e:k=a.size+b.size:=o_;subst e;rw[ar_ (by simp[bT])]at h;simp[bT]at h;subst h;have r:∀p,lJ w (.cat a b) m B (m+(a.size+b.size)) p↔B p:=fun p=>by have:=kz (w:=w) (.cat a b) (m:=m) (B:=B) (p:=p);rwa[show m+(aM.cat a b).size-1=m+(a.size+b.size) by simp only[aM.size];omega]at this
    have u:∀p,lK w (.cat a b) m B (m+(a.size+b.size)) p↔oG w (.cat a b) B p:=fun p=>by have:=kD (w:=w) (.cat a b) (m:=m) (B:=B) (q:=p);rwa[show m+(aM.cat a b).size-1=m+(a.size+b.size) by simp only[aM.size];omega]at this
    have z:∀p,lJ w (.cat a b) m B (m+a.size-1) p↔B p:=fun p=>(c _ p o_ o_).1.symm.trans (kz a);have A:∀p,lK w (.cat a b) m B (m+a.size-1) p↔oG w a B p:=fun p=>(c _ p o_ o_).2.symm.trans (kD a);have H:∀p,lJ w (.cat a b) m B (m+a.size+b.size-1) p↔oG w a B p:=fun p=>(l _ p o_ o_).1.symm.trans (kz b);have I:∀p,lK w (.cat a b) m B (m+a.size+b.size-1) p↔oG w b (oG w a B) p:=fun p=>(l _ p o_ o_).2.symm.trans (kD b);exact⟨fun _ p d=>(z p).2 ((r p).1 d),fun _ p d=>(H p).2 ((A p).1 d),fun k=>(by cases k),fun k=>(by rcases k with k | k <;> cases k),fun k=>(by cases k),fun _ q j=>(u q).2 (((I q).1 j).cat),fun k=>(by rcases k with k | k <;> cases k),fun _ k=>absurd rfl k⟩
 .have K:=b.size_pos;have h:(nodes a m++nodes b (m+a.size)++[⟨3,m+a.size-1,m+a.size+b.size-1,dW⟩])[k]?=some y:=h;have c:∀j p,m<=j->j<m+a.size->(lJ w a m B j p↔lJ w (.alt a b) m B j p)/\(lK w a m B j p↔lK w (.alt a b) m B j p):=fun j p e r=>
   ⟨(VD (fun h=>o_) (fun h=>by have:=rz b h;omega)).symm,(VD (fun h=>o_) (fun h=>by have:=qH b h;omega)).symm⟩
  have l:∀j p,m+a.size<=j->j<m+a.size+b.size->(lJ w b (m+a.size) B j p↔lJ w (.alt a b) m B j p)/\(lK w b (m+a.size) B j p↔lK w (.alt a b) m B j p):=fun j p e r=>
   ⟨(VE (fun h=>o_) (fun h=>by have:=rz a h;omega)).symm,(VE (fun h=>o_) (fun h=>by have:=qH a h;omega)).symm⟩
  by_cases C:k<a.size
  .rw [aa_,al_ (by rw[bT];exact C)]at h;refine (E h).iff (fun p=>c _ p o_ o_) (fun d p=>?_) (fun d p=>?_)
   .have:=(Na a h d).1;exact c _ p this.1 o_
   .have:=(Na a h o_).2 d;exact c _ p this.1 o_
  .by_cases J:k<a.size+b.size
   .rw [aa_,ar_ (by rw[bT];omega),bT,al_ (by rw[bT];omega)]at h;have:=F (B:=B) h;rw[(o_:m+a.size+(k-a.size)=m+k)]at this;refine this.iff (fun p=>l _ p o_ o_) (fun d p=>?_) (fun d p=>?_)
    .have:=(Na b h d).1;exact l _ p this.1 o_
    .have:=(Na b h o_).2 d;exact l _ p this.1 o_
   .have D:=(ge_.1 h).1;simp only[la_,bT,lc_,ln_]at D;have e:k=a.size+b.size:=o_;subst e;rw[ar_ (by simp[bT])]at h;simp[bT]at h;subst h;have r:∀p,lJ w (.alt a b) m B (m+(a.size+b.size)) p↔B p:=fun p=>by have:=kz (w:=w) (.alt a b) (m:=m) (B:=B) (p:=p);rwa[show m+(aM.alt a b).size-1=m+(a.size+b.size) by simp only[aM.size];omega]at this
    have u:∀p,lK w (.alt a b) m B (m+(a.size+b.size)) p↔oG w (.alt a b) B p:=fun p=>by have:=kD (w:=w) (.alt a b) (m:=m) (B:=B) (q:=p);rwa[show m+(aM.alt a b).size-1=m+(a.size+b.size) by simp only[aM.size];omega]at this
    have z:∀p,lJ w (.alt a b) m B (m+a.size-1) p↔B p:=fun p=>(c _ p o_ o_).1.symm.trans (kz a);have A:∀p,lK w (.alt a b) m B (m+a.size-1) p↔oG w a B p:=fun p=>(c _ p o_ o_).2.symm.trans (kD a);have H:∀p,lJ w (.alt a b) m B (m+a.size+b.size-1) p↔B p:=fun p=>(l _ p o_ o_).1.symm.trans (kz b);have I:∀p,lK w (.alt a b) m B (m+a.size+b.size-1) p↔oG w b B p:=fun p=>(l _ p o_ o_).2.symm.trans (kD b);exact⟨fun _ p d=>(z p).2 ((r p).1 d),fun k=>(by cases k),fun _ p d=>(H p).2 ((r p).1 d),fun k=>(by rcases k with k | k <;> cases k),fun k=>(by cases k),fun _ q j=>(u q).2 (((I q).1 j).Im),fun k=>(by rcases k with k | k <;> cases k),fun _ _ q j=>(u q).2 (((A q).1 j).Il)⟩
 .have h:(nodes a m++[⟨4,m+a.size-1,0,dW⟩])[k]?=some y:=h;have c:∀j p,m<=j->j<m+a.size->(lJ w a m (oG w (.star a) B) j p↔lJ w (.star a) m B j p)/\(lK w a m (oG w (.star a) B) j p↔lK w (.star a) m B j p):=fun j p e r=>⟨(JO (fun h=>o_)).symm,(JO (fun h=>o_)).symm⟩;by_cases C:k<a.size
  .rw [al_ (by rw[bT];exact C)]at h;refine (G h).iff (fun p=>c _ p o_ o_) (fun d p=>?_) (fun d p=>?_)
   .have:=(Na a h d).1;exact c _ p this.1 o_
   .have:=(Na a h o_).2 d;exact c _ p this.1 o_
  .have D:=(ge_.1 h).1;simp only[la_,bT,lc_,ln_]at D;have e:k=a.size:=o_;subst e;rw[ar_ (by rw[bT];omega)]at h;simp[bT]at h;subst h;have r:∀p,lJ w (.star a) m B (m+a.size) p↔B p:=fun p=>kz (w:=w) (.star a) (m:=m) (B:=B) (p:=p);have u:∀p,lK w (.star a) m B (m+a.size) p↔oG w (.star a) B p:=fun p=>kD (w:=w) (.star a) (m:=m) (B:=B) (q:=p);have z:∀p,lJ w (.star a) m B (m+a.size-1) p↔oG w (.star a) B p:=fun p=>(c _ p o_ o_).1.symm.trans (kz a);have A:∀p,lK w (.star a) m B (m+a.size-1) p↔oG w a (oG w (.star a) B) p:=fun p=>(c _ p o_ o_).2.symm.trans (kD a);exact⟨fun _ p d=>(z p).2 (.uh ((r p).1 d)),fun k=>(by cases k),fun k=>(by cases k),fun _ p d=>(z p).2 (((A p).1 d).vZ),fun k=>(by cases k),fun k=>(by rcases k with k | k <;> cases k),fun _ q j=>(u q).2 (.uh ((r q).1 j)),fun _ _ q j=>(u q).2 (((A q).1 j).vZ)⟩
 .have h:(nodes a m++[⟨5,m+a.size-1,0,dW⟩])[k]?=some y:=h;have c:∀j p,m<=j->j<m+a.size->(lJ w a m (oG w (.star a) B) j p↔lJ w (.plus a) m B j p)/\(lK w a m (oG w (.star a) B) j p↔lK w (.plus a) m B j p):=fun j p e r=>⟨(JO (fun h=>o_)).symm,(JO (fun h=>o_)).symm⟩;by_cases C:k<a.size
  .rw [al_ (by rw[bT];exact C)]at h;refine (G h).iff (fun p=>c _ p o_ o_) (fun d p=>?_) (fun d p=>?_)
   .have:=(Na a h d).1;exact c _ p this.1 o_
   .have:=(Na a h o_).2 d;exact c _ p this.1 o_
  .have D:=(ge_.1 h).1;simp only[la_,bT,lc_,ln_]at D;have e:k=a.size:=o_;subst e;rw[ar_ (by rw[bT];omega)]at h;simp[bT]at h;subst h;have r:∀p,lJ w (.plus a) m B (m+a.size) p↔B p:=fun p=>kz (w:=w) (.plus a) (m:=m) (B:=B) (p:=p);have u:∀p,lK w (.plus a) m B (m+a.size) p↔oG w (.plus a) B p:=fun p=>kD (w:=w) (.plus a) (m:=m) (B:=B) (q:=p);have z:∀p,lJ w (.plus a) m B (m+a.size-1) p↔oG w (.star a) B p:=fun p=>(c _ p o_ o_).1.symm.trans (kz a);have A:∀p,lK w (.plus a) m B (m+a.size-1) p↔oG w a (oG w (.star a) B) p:=fun p=>(c _ p o_ o_).2.symm.trans (kD a);exact⟨fun _ p d=>(z p).2 (.uh ((r p).1 d)),fun k=>(by cases k),fun k=>(by cases k),fun _ p d=>(z p).2 (((A p).1 d).vZ),fun k=>(by cases k),fun k=>(by rcases k with k | k <;> cases k),fun k=>(by rcases k with k | k <;> cases k),fun _ _ q j=>(u q).2 (((A q).1 j).plus)⟩
 .have h:(nodes a m++[⟨6,m+a.size-1,0,dW⟩])[k]?=some y:=h;have c:∀j p,m<=j->j<m+a.size->(lJ w a m B j p↔lJ w (.opt a) m B j p)/\(lK w a m B j p↔lK w (.opt a) m B j p):=fun j p e r=>⟨(JO (fun h=>o_)).symm,(JO (fun h=>o_)).symm⟩;by_cases C:k<a.size
  .rw [al_ (by rw[bT];exact C)]at h;refine (G h).iff (fun p=>c _ p o_ o_) (fun d p=>?_) (fun d p=>?_)
   .have:=(Na a h d).1;exact c _ p this.1 o_
   .have:=(Na a h o_).2 d;exact c _ p this.1 o_
  .have D:=(ge_.1 h).1;simp only[la_,bT,lc_,ln_]at D;have e:k=a.size:=o_;subst e;rw[ar_ (by rw[bT];omega)]at h;simp[bT]at h;subst h;have r:∀p,lJ w (.opt a) m B (m+a.size) p↔B p:=fun p=>kz (w:=w) (.opt a) (m:=m) (B:=B) (p:=p);have u:∀p,lK w (.opt a) m B (m+a.size) p↔oG w (.opt a) B p:=fun p=>kD (w:=w) (.opt a) (m:=m) (B:=B) (q:=p);have z:∀p,lJ w (.opt a) m B (m+a.size-1) p↔B p:=fun p=>(c _ p o_ o_).1.symm.trans (kz a);have A:∀p,lK w (.opt a) m B (m+a.size-1) p↔oG w a B p:=fun p=>(c _ p o_ o_).2.symm.trans (kD a);exact⟨fun _ p d=>(z p).2 ((r p).1 d),fun k=>(by cases k),fun k=>(by cases k),fun k=>(by rcases k with k | k <;> cases k),fun k=>(by cases k),fun k=>(by rcases k with k | k <;> cases k),fun _ q j=>(u q).2 (.LV ((r q).1 j)),fun _ _ q j=>(u q).2 (((A q).1 j).LY)⟩
theorem zi.line{ls:List aC}{ns:List aF}(h:zi ls ns){j:Nat}{y:aF}(p:ns[j]?=some y):∃k x,ls[k]?=some x/\dQ (ls.take k)<=j/\j<dQ (ls.take k)+x.re.size/\(nodes x.re (dQ (ls.take k)))[j-dQ (ls.take k)]?=some y:=by
 have d:=nW p;rw[h.len]at d;have l:∀n,n<=ls.length->j<dQ (ls.take n)->∃k x,ls[k]?=some x/\dQ (ls.take k)<=j/\j<dQ (ls.take k)+x.re.size:=by
  intro n;induction n with
  | zero=>intro _ e;simp[dQ]at e
  | succ n u=>
   intro z e;obtain⟨x,r⟩:=rG ls n;rw[jo r]at e;by_cases c:j<dQ (ls.take n)
   .exact u o_ c
   .exact⟨n,x,r,o_,e⟩
 obtain⟨k,x,c,r,u⟩:=l ls.length dF (by rw[List.take_length];exact d);refine⟨k,x,c,r,u,?_⟩;have e:j-dQ (ls.take k)<(nodes x.re (dQ (ls.take k))).length:=by rw[bT];omega
 have:=h.at' k x c _ _ (gg_ e);rw[show dQ (ls.take k)+(j-dQ (ls.take k))=j by omega,p]at this;rw[gg_ e];exact this.symm
theorem Gw(ls:List aC){k:Nat}(h:i<=k):dQ (ls.take i)<=dQ (ls.take k):=by
 induction k with
 | zero=>
  have:i=0:=o_;subst this;exact dF
 | succ k e=>
  by_cases c:i=k+1
  .subst c;exact dF
  .refine lt_ (e o_) ?_;by_cases d:k<ls.length
   .rw [jo (gg_ d)];omega
   .rw [List.take_of_length_le o_,List.take_of_length_le o_];exact dF
theorem ahz{ls:List aC}{ns:List aF}(H:zi ls ns){k:Nat}{x:aC}(l:ls[k]?=some x)(B:Nat->Prop){j:Nat}{y:aF}(G:ns[j]?=some y):Ik w (lJ w x.re (dQ (ls.take k)) B) (lK w x.re (dQ (ls.take k)) B) j y:=by
 obtain⟨d,D,z,E,F,A⟩:=H.line G;by_cases e:d=k
 .subst e;rw[l]at z;cases z;have:=acu (w:=w) (B:=B) x.re A;rwa[show dQ (ls.take d)+(j-dQ (ls.take d))=j by omega]at this
 .have apart:∀c,dQ (ls.take d)<=c->c<dQ (ls.take d)+D.re.size->¬(dQ (ls.take k)<=c/\c<dQ (ls.take k)+x.re.size):=fun c h p r=>by
   rcases Nat.lt_or_gt_of_ne e with h | h
   .have:=Gw ls (i:=d+1) (k:=k) h;rw[jo z]at this;omega
   .have:=Gw ls (i:=k+1) (k:=d) h;rw[jo l]at this;omega
  have u:∀p,¬lJ w x.re (dQ (ls.take k)) B j p:=fun p h=>apart j E F (rz _ h);have C:y.kind≠1->∀p,¬lK w x.re (dQ (ls.take k)) B y.l p:=fun l p h=>by have:=(Na D.re A l).1;exact apart y.l this.1 o_ (qH _ h)
  have I:y.kind=2\/y.kind=3->∀p,¬lK w x.re (dQ (ls.take k)) B y.r p:=fun l p h=>by have:=(Na D.re A o_).2 l;exact apart y.r this.1 o_ (qH _ h)
  exact⟨fun _ p c=>absurd c (u p),fun k p c=>absurd c (C o_ p),fun _ p c=>absurd c (u p),fun k p c=>absurd c (C o_ p),fun _ p _ c=>absurd c (u p),fun k q r=>absurd r (I k q),fun _ q r=>absurd r (u q),fun k _ q r=>absurd r (C k q)⟩
theorem adX{ns:List aF}{PB PE:Nat->Nat->Prop}(J:∀j y,ns[j]?=some y->Ik w PB PE j y):∀(x:aM) {m p q:Nat} {u:List Nat},ag ns x m->PB (m+x.size-1) p->M x u->Bp w p u q->PE (m+x.size-1) q:=by
 have star:∀(a:aM) {c l q:Nat},(∀p q u,PB l p->M a u->Bp w p u q->PE l q)->(∀p,PE l p->PB l p)->(∀p,PE l p->PE c p)->∀{u:List Nat},M (.star a) u->∀p,PB l p->PE c p->Bp w p u q->PE c q:=by
  intro a c l q k E K u d;generalize e:aM.star a=x at d;induction d with
  | uh=>intro p _ C h;have z:q=p:=h;rw[z];exact C
  | vZ D F _ G=>
   cases e;intro p A _ h;obtain⟨r,L,N⟩:=h.parts;have:=k p r _ A D L;exact G rfl r (E r this) (K r this) N
  | pl _=>cases e
  | cat _ _=>cases e
  | Il _=>cases e
  | Im _=>cases e
  | plus _ _=>cases e
  | LV=>cases e
  | LY _=>cases e
 intro x;induction x with
 | pl T=>
  intro m p q u z d A l;cases A with
  | pl S=>have R:ns[m]?=some ⟨1,0,0,T⟩:=z 0 _ rfl;have:=(J m _ R).e1 rfl p _ d l.1 S l.2.1;have e:q=GH w.length p:=l.2.2;rw[e];exact this
 | cat a b H I=>
  intro m p q u z d A l;obtain⟨C,Q,F⟩:=ag.two (x:=⟨2,m+a.size-1,m+a.size+b.size-1,dW⟩) z;have pa:=a.size_pos;have U:=b.size_pos;have D:m+(aM.cat a b).size-1=m+a.size+b.size:=by simp only[aM.size];omega
  rw[D]at d |-
  cases A with
  | cat k E=>obtain⟨r,L,N⟩:=l.parts;have c:=J _ _ F;have O:=H C (c.c1 (fun h=>by cases h) p d) k L;exact c.e2 (.inl rfl) q (I Q (c.c2 rfl r O) E N)
 | alt a b H I=>
  intro m p q u z d A l;obtain⟨C,Q,F⟩:=ag.two (x:=⟨3,m+a.size-1,m+a.size+b.size-1,dW⟩) z;have pa:=a.size_pos;have U:=b.size_pos;have D:m+(aM.alt a b).size-1=m+a.size+b.size:=by simp only[aM.size];omega
  rw[D]at d |-;have c:=J _ _ F
  cases A with
  | Il k=>exact c.eL (fun h=>by cases h) (fun h=>by cases h) q (H C (c.c1 (fun h=>by cases h) p d) k l)
  | Im k=>exact c.e2 (.inr rfl) q (I Q (c.c3 rfl p d) k l)
 | star a G=>
  intro m p q u z d A l;obtain⟨C,F⟩:=ag.one (x:=⟨4,m+a.size-1,0,dW⟩) z;have D:m+(aM.star a).size-1=m+a.size:=by simp only[aM.size];omega
  rw[D]at d |-;have c:=J _ _ F;exact star a (fun p q u k E K=>G C k E K) (c.c4 (.inl rfl)) (c.eL (fun h=>by cases h) (fun h=>by cases h)) A p (c.c1 (fun h=>by cases h) p d) (c.e0 (.inl rfl) p d) l
 | plus a G=>
  intro m p q u z d A l;obtain⟨C,F⟩:=ag.one (x:=⟨5,m+a.size-1,0,dW⟩) z;have D:m+(aM.plus a).size-1=m+a.size:=by simp only[aM.size];omega
  rw[D]at d |-;have c:=J _ _ F
  cases A with
  | plus k E=>obtain⟨r,L,N⟩:=l.parts;have O:=G C (c.c1 (fun h=>by cases h) p d) k L;exact star a (fun p q u k E K=>G C k E K) (c.c4 (.inr rfl)) (c.eL (fun h=>by cases h) (fun h=>by cases h)) E r (c.c4 (.inr rfl) r O) (c.eL (fun h=>by cases h) (fun h=>by cases h) r O) N
 | opt a G=>
  intro m p q u z d A l;obtain⟨C,F⟩:=ag.one (x:=⟨6,m+a.size-1,0,dW⟩) z;have D:m+(aM.opt a).size-1=m+a.size:=by simp only[aM.size];omega
  rw[D]at d |-;have c:=J _ _ F
  cases A with
  | LV=>have e:q=p:=l;rw[e];exact c.e0 (.inr rfl) p d
  | LY k=>exact c.eL (fun h=>by cases h) (fun h=>by cases h) q (G C (c.c1 (fun h=>by cases h) p d) k l)
end
end Pu
namespace Pu
structure bK where
 rule:Int
 pos:Int
 len:Int
 line:Int
 iU:Int
structure bJ where
 pos:Int
 line:Int
 iU:Int
 mode:Int
 lN:List Int
 jy:Int
 steps:Int
 ins:Int
 c:Int
 looked:Int
 rule:Int
 marked:Int
 dU:List bK
 err:Int
structure bI where
 p:lZ
 most:Int
 depth:Int
 s:Y_
 ended:Bool
inductive Lk where
 | wait:Lk
 | go:bJ->Lk
 | stop:bJ->Int->Lk
def look(E:bI)(C:bJ):Lk:=
 let x:=aO E.p.code C.ins.toNat
 let D:bJ:={ C with steps:=C.steps+1,ins:=C.ins+1 }
 if x.op=1 then .go (if 0<C.looked then { D with rule:=x.a,marked:=C.looked } else D)
 else if x.op=2 then
  if (E.s.size:Int)<=C.pos+C.looked then (if E.ended then .stop D 0 else .wait)
  else if E.most<=C.looked then .stop D 5
  else .go { D with c:=bt E.s (C.pos+C.looked).toNat,looked:=C.looked+1 }
 else if x.op=3 then .go (if x.a<=C.c/\C.c<=x.b then { D with ins:=x.bH } else D)
 else if x.op=4 then .go { D with ins:=x.bH }
 else .stop D 0
def qO(s:Y_)(a:Nat):Nat->Int × Int->Int × Int
 | 0,q=>q
 | n+1,q=>if bt s (a+n)=10 then ((qO s a n q).1+1,1) else ((qO s a n q).1,(qO s a n q).2+1)
def wrong(p:lZ)(depth:Int)(C:bJ):Int:=
 if C.marked=0 then 4
 else if (rg p.rules C.rule.toNat).act=2/\depth<=C.jy then 6
 else if (rg p.rules C.rule.toNat).act=3/\C.jy=0 then 7
 else 0
def gH(r:mg)(C:bJ):Int:=if r.act=1\/r.act=2 then r.mode else if r.act=3 then aU C.lN (C.jy-1).toNat else C.mode
def mI(r:mg)(C:bJ):List Int:=if r.act=2 then C.lN.set C.jy.toNat C.mode else C.lN
def ny(r:mg)(C:bJ):Int:=if r.act=2 then C.jy+1 else if r.act=3 then C.jy-1 else C.jy
def took(p:lZ)(s:Y_)(C:bJ):bJ:=
 let r:=rg p.rules C.rule.toNat
 { pos:=C.pos+C.marked,line:=(qO s C.pos.toNat C.marked.toNat (C.line,C.iU)).1,iU:=(qO s C.pos.toNat C.marked.toNat (C.line,C.iU)).2,mode:=gH r C,lN:=mI r C,jy:=ny r C,steps:=C.steps,ins:=aU p.ents (gH r C).toNat,c:=0,looked:=0,rule:=0,marked:=0,dU:=if r.emit=1 then C.dU++[⟨C.rule,C.pos,C.marked,C.line,C.iU⟩] else C.dU,err:=0 }
def take(E:bI)(C:bJ)(e:Int):bJ:=
 if e≠0 then { C with err:=e }
 else if wrong E.p E.depth C≠0 then { C with err:=wrong E.p E.depth C }
 else took E.p E.s C
def zQ(E:bI)(C:bJ):Option bJ:=
 if C.err≠0\/(E.s.size:Int)<=C.pos then none
 else match look E C with
  | .wait=>none
  | .go D=>some D
  | .stop D e=>some (take E D e)
inductive qJ(E:bI):bJ->bJ->Prop where
 | refl (C:bJ):qJ E C C
 | step {C D F:bJ}:qJ E C D->zQ E D=some F->qJ E C F
theorem qJ.trans{E:bI}{A B C:bJ}(h:qJ E A B)(k:qJ E B C):qJ E A C:=by
 induction k with
 | refl=>exact h
 | step _ c d=>exact .step d c
def rW(E:bI)(C D:bJ):Prop:=qJ E C D/\zQ E D=none
theorem qJ.head{E:bI}{A C:bJ}(h:qJ E A C):A=C\/∃B,zQ E A=some B/\qJ E B C:=by
 induction h with
 | refl=>exact .inl rfl
 | step e c d=>
  right;rcases d with rfl | ⟨B,hb,hr⟩
  .exact⟨_,c,.refl _⟩
  .exact⟨B,hb,.step hr c⟩
theorem qJ.meets{E:bI}{A B C:bJ}(h:qJ E A B)(k:qJ E A C):qJ E B C\/qJ E C B:=by
 induction h with
 | refl=>exact .inl k
 | step _ c d=>
  rcases d with h | h
  .rcases h.head with rfl | ⟨X,hx,hr⟩
   .exact .inr (.step (.refl _) c)
   .rw [c]at hx;cases hx;exact .inl hr
  .exact .inr (.step h c)
theorem qJ.done{E:bI}{A B:bJ}(h:qJ E A B)(c:zQ E A=none):A=B:=by
 rcases h.head with rfl | ⟨X,hx,_⟩
 .rfl
 .rw [c]at hx;cases hx
theorem rW.same{E:bI}{A B C:bJ}(h:rW E A B)(k:rW E A C):B=C:=by
 rcases h.1.meets k.1 with r | r
 .exact r.done h.2
 .exact (r.done k.2).symm
theorem rW.behind{E:bI}{A B C:bJ}(h:qJ E A B)(k:rW E B C):rW E A C:=⟨h.trans k.1,k.2⟩
theorem AP{E:bI}{C:bJ}(h:C.err≠0):zQ E C=none:=by unfold zQ;rw[if_pos (.inl h)]
def rk(c:Nat->Nat)(n i:Nat):Nat:=((List.range n).filter (fun j=>decide (c j<c i))).length
theorem filter_le{α:Type}(p q:α->Bool)(l:List α)(h:∀x,x∈l->p x=true->q x=true):(l.filter p).length<=(l.filter q).length:=by
 induction l with
 | nil=>simp
 | cons x r e=>
  have c:=e (fun y d=>h y (mc_ _ d));have d:=h x ms_;cases hp:p x with
  | true=>rw[List.filter_cons_of_pos hp,List.filter_cons_of_pos (d hp)];simp;exact c
  | false=>
   rw[List.filter_cons_of_neg (by simp[hp])];cases hq:q x with
   | true=>rw[List.filter_cons_of_pos hq];simp;omega
   | false=>rw[List.filter_cons_of_neg (by simp[hq])];exact c
theorem filter_lt{α:Type}(p q:α->Bool)(l:List α)(h:∀x,x∈l->p x=true->q x=true){y:α}(d:y∈l)(j:p y=false)(k:q y=true):(l.filter p).length<(l.filter q).length:=by
 induction l with
 | nil=>simp at d
 | cons x r A=>
  have e:∀z,z∈r->p z=true->q z=true:=fun z c=>h z (mc_ _ c);have u:=h x ms_;rcases mm_.1 d with rfl | d
  .rw [List.filter_cons_of_neg (by simp[j]),List.filter_cons_of_pos k];have:=filter_le p q r e;simp;omega
  .have c:=A e d;cases hp':p x with
   | true=>rw[List.filter_cons_of_pos hp',List.filter_cons_of_pos (u hp')];simp;exact c
   | false=>
    rw[List.filter_cons_of_neg (by simp[hp'])];cases hq':q x with
    | true=>rw[List.filter_cons_of_pos hq'];simp;omega
    | false=>rw[List.filter_cons_of_neg (by simp[hq'])];exact c
theorem aki(c:Nat->Nat){j:Nat}(d:j<n)(h:c j<c i):rk c n j<rk c n i:=by
 unfold rk;refine filter_lt _ _ _ (fun x _ e=>?_) (List.mem_range.2 d) ?_ ?_
 .simp at e |-;omega
 .simp
 .simpa using h
theorem akh(c:Nat->Nat)(d:i<n):rk c n i<n:=by
 have h:rk c n i<((List.range n).filter (fun _=>true)).length:=by unfold rk;refine filter_lt _ _ _ (fun _ _ _=>rfl) (List.mem_range.2 d) ?_ rfl;simp
 have e:((List.range n).filter (fun _=>true)).length=n:=by rw[List.filter_eq_self.2 (fun _ _=>rfl),List.length_range]
 omega
theorem ahs{l:List ed}(h:wW l)(p:oH l):∃f:Nat->Int,(∀i,i<l.length->0<=f i/\f i<l.length)/\∀i,i<l.length->∀j,j∈succ l i->f j<f i:=by obtain⟨c,k⟩:=h;refine⟨fun i=>(rk c l.length i:Int),fun i d=>⟨Int.natCast_nonneg _,Int.ofNat_lt.2 (akh c d)⟩,fun i d j e=>?_⟩;have:=aki c (p.lt d e) (k i d j e);show (rk c l.length j:Int)<(rk c l.length i:Int);omega
end Pu
namespace Pu
structure Good(E:bI)(f:Nat->Int):Prop where
 right:gu E.p
 most:1<=E.most/\E.most<=64
 depth:0<=E.depth/\E.depth<=8
 f0:∀i,i<E.p.code.length->0<=f i/\f i<E.p.code.length
 f1:∀i,i<E.p.code.length->∀j,j∈succ E.p.code i->f j<f i
def rM(E:bI):Int:=(E.most+1)*E.p.code.length
structure wY(E:bI)(f:Nat->Int)(C:bJ):Prop where
 pos:0<=C.pos
 looked:0<=C.looked/\C.looked<=E.most
 within:C.pos+C.looked<=E.s.size
 marked:0<=C.marked/\C.marked<=C.looked
 ins:0<=C.ins/\C.ins<=E.p.code.length
 c:0<=C.c/\C.c<=255
 rule:0<=C.rule/\C.rule<E.p.rules.length
 mode:0<=C.mode/\C.mode<E.p.ents.length
 lN:C.lN.length=8/\∀i,i<8->0<=aU C.lN i/\aU C.lN i<E.p.ents.length
 jy:0<=C.jy/\C.jy<=E.depth
 line:1<=C.line/\C.line<=C.pos+1
 iU:1<=C.iU/\C.iU<=C.pos+1
 steps:0<=C.steps/\C.steps<=C.pos*rM E+(C.looked+1)*E.p.code.length
 live:C.err=0->C.ins<E.p.code.length/\C.steps+f C.ins.toNat+1<=C.pos*rM E+(C.looked+1)*E.p.code.length
 err:0<=C.err/\C.err<=7
 dU:(C.dU.length:Int)<=C.pos
structure Q7(E:bI)(C:bJ):Prop where
 pos:0<=C.pos
 looked:0<=C.looked/\C.looked<=E.most
 within:C.pos+C.looked<=E.s.size
 marked:0<=C.marked/\C.marked<=C.looked
 ins:0<=C.ins/\C.ins<=E.p.code.length
 c:0<=C.c/\C.c<=255
 rule:0<=C.rule/\C.rule<E.p.rules.length
 mode:0<=C.mode/\C.mode<E.p.ents.length
 lN:C.lN.length=8/\∀i,i<8->0<=aU C.lN i/\aU C.lN i<E.p.ents.length
 jy:0<=C.jy/\C.jy<=E.depth
 line:1<=C.line/\C.line<=C.pos+1
 iU:1<=C.iU/\C.iU<=C.pos+1
 steps:0<=C.steps/\C.steps<=C.pos*rM E+(C.looked+1)*E.p.code.length
 err:C.err=0
 dU:(C.dU.length:Int)<=C.pos
theorem Good.abq{E:bI}(g:Good E f)(c:i<E.p.code.length):qm E.p.rules.length E.p.code.length (aO E.p.code i):=g.right.2.2.1.2.1 i c
theorem Good.next{E:bI}(g:Good E f)(c:i<E.p.code.length)(d:(aO E.p.code i).op≠4/\(aO E.p.code i).op≠5):i+1<E.p.code.length:=by
 have:=g.right.2.2.1.2.2;by_cases e:i=E.p.code.length-1
 .rw [<-e]at this;omega
 .omega
theorem Good.n1{E:bI}(g:Good E f):1<=E.p.code.length/\E.p.code.length<=50000:=g.right.2.2.1.1
theorem ahg(a n:Int):(a+1+1)*n=(a+1)*n+n:=by rw[Int.add_mul (a+1) 1 n,Int.one_mul]
theorem ahB{l:List ed}(h:(aO l i).op=1\/(aO l i).op=3):i+1∈succ l i:=by unfold succ;rw[ma_];left;unfold fst;unfold aO at h;rw[if_pos h];simp
theorem ahC{l:List ed}(h:(aO l i).op=3\/(aO l i).op=4):(aO l i).bH.toNat∈succ l i:=by
 unfold succ;rw[ma_];right;unfold snd;unfold aO at h |-
 rw[if_pos h];simp
theorem ze{E:bI}(g:Good E f){C D:bJ}(h:wY E f C)(d:C.err=0)(c:look E C=.go D):wY E f D/\D.err=0/\D.pos=C.pos/\D.steps=C.steps+1/\D.dU=C.dU:=by
 obtain⟨J,K⟩:=h.live d;have I:=h.ins;have hi:C.ins.toNat<E.p.code.length:=o_;have k:=g.abq hi;have nx:=g.next hi;have H:=g.f1 _ hi;have L:=h.pos;have N:=h.looked;have O:=h.within;have Q:=h.marked;have R:=h.steps;have A:=fun q=>g.f1 _ hi _ (ahB (l:=E.p.code) (i:=C.ins.toNat) q);have F:=fun q=>g.f1 _ hi _ (ahC (l:=E.p.code) (i:=C.ins.toNat) q);have G:=g.f0 _ hi;have e:(C.ins+1).toNat=C.ins.toNat+1:=o_;unfold look at c;simp only at c;unfold qm at k;generalize aO E.p.code C.ins.toNat=x at *;by_cases p:x.op=1
 .rw [if_pos p]at c;have r:=nx o_;have y:=A (.inl p);split at c
  .cases c;exact⟨⟨h.pos,h.looked,h.within,⟨by show 0<=C.looked;omega,by show C.looked<=C.looked;omega⟩,⟨by show 0<=C.ins+1;omega,by show C.ins+1<=_;omega⟩,h.c,⟨by show 0<=x.a;omega,by show x.a<_;omega⟩,h.mode,h.lN,h.jy,h.line,h.iU,
    ⟨by show 0<=C.steps+1;omega,by show C.steps+1<=C.pos*rM E+(C.looked+1)*_;omega⟩,fun _=>⟨by show C.ins+1<_;omega,by show C.steps+1+f (C.ins+1).toNat+1<=C.pos*rM E+(C.looked+1)*_;rw[e];omega⟩,h.err,h.dU⟩,d,rfl,rfl,rfl⟩
  .cases c;exact⟨⟨h.pos,h.looked,h.within,h.marked,⟨by show 0<=C.ins+1;omega,by show C.ins+1<=_;omega⟩,h.c,h.rule,h.mode,h.lN,h.jy,h.line,h.iU,
    ⟨by show 0<=C.steps+1;omega,by show C.steps+1<=C.pos*rM E+(C.looked+1)*_;omega⟩,fun _=>⟨by show C.ins+1<_;omega,by show C.steps+1+f (C.ins+1).toNat+1<=C.pos*rM E+(C.looked+1)*_;rw[e];omega⟩,h.err,h.dU⟩,d,rfl,rfl,rfl⟩
 rw[if_neg p]at c;by_cases u:x.op=2
 .rw [if_pos u]at c;have r:=nx o_;have y:=g.f0 _ r;have z:=ahg C.looked (E.p.code.length:Int);split at c
  .split at c <;> cases c
  .split at c
   .cases c
   .cases c;have:=iM E.s (C.pos+C.looked).toNat
    exact⟨⟨h.pos,⟨by show 0<=C.looked+1;omega,by show C.looked+1<=_;omega⟩,by show C.pos+(C.looked+1)<=_;omega,⟨h.marked.1,by show C.marked<=C.looked+1;omega⟩,⟨by show 0<=C.ins+1;omega,by show C.ins+1<=_;omega⟩,this,h.rule,h.mode,h.lN,h.jy,h.line,h.iU,
     ⟨by show 0<=C.steps+1;omega,by show C.steps+1<=C.pos*rM E+(C.looked+1+1)*_;omega⟩,fun _=>⟨by show C.ins+1<_;omega,by show C.steps+1+f (C.ins+1).toNat+1<=C.pos*rM E+(C.looked+1+1)*_;rw[e];omega⟩,h.err,h.dU⟩,d,rfl,rfl,rfl⟩
 rw[if_neg u]at c;by_cases j:x.op=3
 .rw [if_pos j]at c;have r:=nx o_;have y:=A (.inr j);have z:=F (.inl j);split at c
  .cases c;exact⟨⟨h.pos,h.looked,h.within,h.marked,⟨by show 0<=x.bH;omega,by show x.bH<=_;omega⟩,h.c,h.rule,h.mode,h.lN,h.jy,h.line,h.iU,
    ⟨by show 0<=C.steps+1;omega,by show C.steps+1<=C.pos*rM E+(C.looked+1)*_;omega⟩,fun _=>⟨by show x.bH<_;omega,by show C.steps+1+f x.bH.toNat+1<=C.pos*rM E+(C.looked+1)*_;omega⟩,h.err,h.dU⟩,d,rfl,rfl,rfl⟩
  .cases c;exact⟨⟨h.pos,h.looked,h.within,h.marked,⟨by show 0<=C.ins+1;omega,by show C.ins+1<=_;omega⟩,h.c,h.rule,h.mode,h.lN,h.jy,h.line,h.iU,
    ⟨by show 0<=C.steps+1;omega,by show C.steps+1<=C.pos*rM E+(C.looked+1)*_;omega⟩,fun _=>⟨by show C.ins+1<_;omega,by show C.steps+1+f (C.ins+1).toNat+1<=C.pos*rM E+(C.looked+1)*_;rw[e];omega⟩,h.err,h.dU⟩,d,rfl,rfl,rfl⟩
 rw[if_neg j]at c;by_cases r:x.op=4
 .rw [if_pos r]at c;have z:=F (.inr r);cases c;exact⟨⟨h.pos,h.looked,h.within,h.marked,⟨by show 0<=x.bH;omega,by show x.bH<=_;omega⟩,h.c,h.rule,h.mode,h.lN,h.jy,h.line,h.iU,
   ⟨by show 0<=C.steps+1;omega,by show C.steps+1<=C.pos*rM E+(C.looked+1)*_;omega⟩,fun _=>⟨by show x.bH<_;omega,by show C.steps+1+f x.bH.toNat+1<=C.pos*rM E+(C.looked+1)*_;omega⟩,h.err,h.dU⟩,d,rfl,rfl,rfl⟩
 rw[if_neg r]at c;cases c
theorem sO{E:bI}(g:Good E f){C D:bJ}{e:Int}(h:wY E f C)(j:C.err=0)(c:look E C=.stop D e):Q7 E D/\D.pos=C.pos/\D.steps=C.steps+1/\(e=0\/e=5)/\D.looked=C.looked/\D.dU=C.dU:=by
 obtain⟨r,u⟩:=h.live j;have p:=h.ins;have k:C.ins.toNat<E.p.code.length:=o_;have l:=g.f0 _ k;have x:=h.steps;have d:Q7 E { C with steps:=C.steps+1,ins:=C.ins+1 }:=
  ⟨h.pos,h.looked,h.within,h.marked,⟨by show 0<=C.ins+1;omega,by show C.ins+1<=_;omega⟩,h.c,h.rule,h.mode,h.lN,h.jy,h.line,h.iU,⟨by show 0<=C.steps+1;omega,by show C.steps+1<=C.pos*rM E+(C.looked+1)*_;omega⟩,j,h.dU⟩
 unfold look at c;simp only at c;split at c
 .cases c
 split at c
 .split at c
  .split at c
   .cases c;exact⟨d,rfl,rfl,.inl rfl,rfl,rfl⟩
   .cases c
  .split at c
   .cases c;exact⟨d,rfl,rfl,.inr rfl,rfl,rfl⟩
   .cases c
 split at c
 .cases c
 split at c
 .cases c
 .cases c;exact⟨d,rfl,rfl,.inl rfl,rfl,rfl⟩
theorem KE(s:Y_)(a:Nat):∀(n:Nat) (q:Int × Int),1<=q.1->1<=q.2->(1<=(qO s a n q).1/\(qO s a n q).1<=q.1+n)/\(1<=(qO s a n q).2/\(qO s a n q).2<=q.2+n)
 | 0,q,h1,h2=>by simp only[qO];omega
 | n+1,q,h1,h2=>by
  have:=KE s a n q h1 h2;simp only[qO];split
  .exact⟨⟨by show 1<=(qO s a n q).1+1;omega,by show (qO s a n q).1+1<=_;omega⟩,⟨by show (1:Int)<=1;omega,by show (1:Int)<=_;omega⟩⟩
  .exact⟨⟨by show 1<=(qO s a n q).1;omega,by show (qO s a n q).1<=_;omega⟩,⟨by show 1<=(qO s a n q).2+1;omega,by show (qO s a n q).2+1<=_;omega⟩⟩
theorem Q7.VP{E:bI}{C:bJ}(h:Q7 E C){e:Int}(c:1<=e/\e<=7):wY E f { C with err:=e }:=
 ⟨h.pos,h.looked,h.within,h.marked,h.ins,h.c,h.rule,h.mode,h.lN,h.jy,h.line,h.iU,h.steps,fun (x:e=0)=>o_,⟨by show 0<=e;omega,by show e<=7;omega⟩,h.dU⟩
theorem QM(p:lZ)(d:Int)(C:bJ):wrong p d C=0\/(1<=wrong p d C/\wrong p d C<=7):=by
 unfold wrong;split
 .right;omega
 split
 .right;omega
 split
 .right;omega
 .left;rfl
theorem ach{E:bI}{a b k:Int}(j:0<=k/\k<=E.most)(c:a+1<=b):a*rM E+(k+1)*E.p.code.length<=b*rM E:=by have h:(k+1)*(E.p.code.length:Int)<=(E.most+1)*(E.p.code.length:Int):=Int.mul_le_mul_of_nonneg_right o_ o_;have d:0<=rM E:=Int.mul_nonneg o_ o_;have e:(a+1)*rM E<=b*rM E:=Int.mul_le_mul_of_nonneg_right c d;rw[Int.add_mul,Int.one_mul]at e;unfold rM at *;omega
theorem uj{E:bI}(g:Good E f){C:bJ}(h:Q7 E C)(c:wrong E.p E.depth C=0):wY E f (took E.p E.s C)/\(took E.p E.s C).err=0/\C.pos<(took E.p E.s C).pos/\(took E.p E.s C).steps=C.steps:=by
 have J:1<=C.marked:=by
  have:=h.marked;by_cases e:C.marked=0
  .unfold wrong at c;rw[if_pos e]at c;cases c
  .omega
 unfold wrong at c;rw[if_neg o_]at c;have z:¬((rg E.p.rules C.rule.toNat).act=2/\E.depth<=C.jy):=fun q=>by rw[if_pos q]at c;cases c
 rw[if_neg z]at c;have R:¬((rg E.p.rules C.rule.toNat).act=3/\C.jy=0):=fun q=>by rw[if_pos q]at c;cases c
 have K:=h.rule;have H:=h.jy;have D:=g.depth;have e:=h.lN;have d:=h.mode;have ok:=g.right.2.1.2 C.rule.toNat o_;have l:=KE E.s C.pos.toNat C.marked.toNat (C.line,C.iU) h.line.1 h.iU.1;have L:=h.pos;have N:=h.marked;have O:=h.within;have y:=h.looked;have I:=h.line;have G:=h.iU;unfold took;simp only;generalize F:rg E.p.rules C.rule.toNat=r at *;have j:=ok.2.2.1;have md:0<=gH r C/\gH r C<E.p.ents.length:=by
  unfold gH;split
  .exact j
  .split
   .exact e.2 _ o_
   .exact d
 have p:=g.right.1.2 (gH r C).toNat o_;have st:=h.steps;have A:=g.f0 (aU E.p.ents (gH r C).toNat).toNat o_;have Q:=ach (E:=E) (a:=C.pos) (b:=C.pos+C.marked) (k:=C.looked) y o_;have n1:=g.n1;have S:((0:Int)+1)*(E.p.code.length:Int)=E.p.code.length:=by rw[Int.zero_add,Int.one_mul]
 refine⟨⟨by show 0<=C.pos+C.marked;omega,⟨Int.le_refl _,by show (0:Int)<=_;omega⟩,by show C.pos+C.marked+0<=_;omega,⟨Int.le_refl _,Int.le_refl _⟩,⟨p.1,by show aU E.p.ents (gH r C).toNat<=_;omega⟩,⟨Int.le_refl _,by show (0:Int)<=255;omega⟩,⟨Int.le_refl _,by show (0:Int)<_;omega⟩,md,?_,?_,?_,?_,?_,?_,⟨Int.le_refl _,by show (0:Int)<=7;omega⟩,?_⟩,by first | trivial | rfl,by show C.pos<C.pos+C.marked;omega,by first | trivial | rfl⟩
 .show (mI r C).length=8/\∀i,i<8->0<=aU (mI r C) i/\aU (mI r C) i<_;unfold mI;split
  .refine⟨by rw[le_];exact e.1,fun i x=>?_⟩;have u:=tF C.lN C.jy.toNat i C.mode 0 o_;unfold aU at *;rw[u];split
   .exact d
   .exact e.2 i x
  .exact e
 .show 0<=ny r C/\ny r C<=_;unfold ny;split
  .omega
  .split <;> omega
 .show 1<=(qO E.s C.pos.toNat C.marked.toNat (C.line,C.iU)).1/\(qO E.s C.pos.toNat C.marked.toNat (C.line,C.iU)).1<=C.pos+C.marked+1;have:=l.1;simp only at this;omega
 .show 1<=(qO E.s C.pos.toNat C.marked.toNat (C.line,C.iU)).2/\(qO E.s C.pos.toNat C.marked.toNat (C.line,C.iU)).2<=C.pos+C.marked+1;have:=l.2;simp only at this;omega
 .show 0<=C.steps/\C.steps<=(C.pos+C.marked)*rM E+(0+1)*_;omega
 .intro _;show aU E.p.ents (gH r C).toNat<_/\C.steps+f (aU E.p.ents (gH r C).toNat).toNat+1<=(C.pos+C.marked)*rM E+(0+1)*_;omega
 .show ((if r.emit=1 then C.dU++[_] else C.dU).length:Int)<=C.pos+C.marked;have:=h.dU;split
  .rw [la_,List.length_singleton];omega
  .omega
theorem acL{E:bI}(g:Good E f){C:bJ}(h:Q7 E C){e:Int}(j:e=0\/e=5):wY E f (take E C e)/\(take E C e).steps=C.steps:=by
 unfold take;split
 .exact⟨h.VP o_,rfl⟩
 .split
  .rename_i c d;have:=QM E.p E.depth C;exact⟨h.VP o_,rfl⟩
  .rename_i c d;have:=uj g h o_;exact⟨this.1,this.2.2.2⟩
theorem aeH{E:bI}(g:Good E f){C D:bJ}(h:wY E f C)(c:zQ E C=some D):wY E f D/\D.steps=C.steps+1:=by
 unfold zQ at c;split at c
 .cases c
 .rename_i k;have d:C.err=0:=by
   by_cases e:C.err=0
   .exact e
   .exact absurd (.inl e) k
  cases hl:look E C with
  | wait=>rw[hl]at c;cases c
  | go j=>rw[hl]at c;cases c;have:=ze g h d hl;exact⟨this.1,this.2.2.2.1⟩
  | stop j e=>rw[hl]at c;cases c;have:=sO g h d hl;have t:=acL g this.1 this.2.2.2.1;exact⟨t.1,by rw[t.2];exact this.2.2.1⟩
theorem qJ.inv{E:bI}(g:Good E f){C D:bJ}(r:qJ E C D)(h:wY E f C):wY E f D:=by
 induction r with
 | refl=>exact h
 | step _ c d=>exact (aeH g d c).1
theorem U4{t:Y_}(c:n<s.size):bt (s++t) n=bt s n:=by
 unfold bt;have e:(s++t).data.toList=s.data.toList++t.data.toList:=i_;rw[e,gd_,gd_,al_ (by simpa using c)]
theorem NI{s t:Y_}{a:Nat}{q:Int × Int}:∀(n:Nat),a+n<=s.size->qO (s++t) a n q=qO s a n q
 | 0,_=>rfl
 | n+1,h=>by simp only[qO];rw[NI n o_,U4 o_]
def bI.on(E:bI)(t:Y_)(b:Bool):bI:={ E with s:=E.s++t,ended:=b }
theorem nD(E:bI)(t:Y_)(b:Bool):(E.on t b).s.size=E.s.size+t.size:=by unfold bI.on;simp
theorem Good.on{E:bI}{f:Nat->Int}(g:Good E f)(t:Y_)(b:Bool):Good (E.on t b) f:=⟨g.right,g.most,g.depth,g.f0,g.f1⟩
theorem wY.on{E:bI}{f:Nat->Int}{C:bJ}(h:wY E f C)(t:Y_)(b:Bool):wY (E.on t b) f C:=
 ⟨h.pos,h.looked,by have:=h.within;rw[nD];omega,h.marked,h.ins,h.c,h.rule,h.mode,h.lN,h.jy,h.line,h.iU,h.steps,h.live,h.err,h.dU⟩
theorem Vr{E:bI}{C:bJ}(h:wY E f C)(y:E.ended=false)(t:Y_)(b:Bool)(e:look E C≠.wait):look (E.on t b) C=look E C:=by
 unfold look at *;have p:=h.pos;have l:=h.looked;simp only[y]at *;have k:(E.on t b).p=E.p:=rfl;have r:(E.on t b).most=E.most:=rfl;have u:=nD E t b;rw[k,r,u];generalize aO E.p.code C.ins.toNat=x at *;by_cases c:x.op=1
 .rw [if_pos c,if_pos c]
 rw[if_neg c,if_neg c];rw[if_neg c]at e;by_cases d:x.op=2
 .rw [if_pos d]at e;rw[if_pos d,if_pos d];by_cases j:(E.s.size:Int)<=C.pos+C.looked
  .rw [if_pos j]at e;simp at e
  .rw [if_neg j,if_neg o_];have:bt (E.on t b).s (C.pos+C.looked).toNat=bt E.s (C.pos+C.looked).toNat:=U4 o_;rw[this]
 rw[if_neg d,if_neg d]
theorem ahf{E:bI}(g:Good E f){C D:bJ}(h:wY E f C)(k:E.ended=false)(t:Y_)(b:Bool)(c:zQ E C=some D):zQ (E.on t b) C=some D:=by
 unfold zQ at *;rw[nD];split at c
 .cases c
 .rename_i l;have x:C.err=0:=by
   by_cases e:C.err=0
   .exact e
   .exact absurd (.inl e) l
  have G:C.pos<E.s.size:=by
   by_cases e:(E.s.size:Int)<=C.pos
   .exact absurd (.inr e) l
   .omega
  rw[if_neg o_];cases hl:look E C with
  | wait=>rw[hl]at c;cases c
  | go d=>rw[Vr h k t b (by rw[hl];intro q;cases q),hl];rw[hl]at c;exact c
  | stop d e=>
   rw[Vr h k t b (by rw[hl];intro q;cases q),hl];rw[hl]at c;cases c;have j:=(sO g h x hl).1;have y:take (E.on t b) d e=take E d e:=by unfold take took;have z:=j.pos;have A:=j.marked;have F:=j.within;have p:(E.on t b).p=E.p:=rfl;have r:(E.on t b).depth=E.depth:=rfl;have u:(E.on t b).s=E.s++t:=rfl;rw[p,r,u,NI _ o_]
   show some (take (E.on t b) d e)=some (take E d e);rw[y]
theorem qJ.on{E:bI}{f:Nat->Int}(g:Good E f){C D:bJ}(r:qJ E C D)(h:wY E f C)(e:E.ended=false)(t:Y_)(b:Bool):qJ (E.on t b) C D:=by
 induction r with
 | refl=>exact .refl _
 | step c d j=>exact .step j (ahf g (c.inv g h) e t b d)
end Pu
open Go.RowKit
def lI(ve vr vc d:V_)(c depth:Int)(C:bJ)(ended:Bool)(fault:Int):List V_:=
 [ve,vr,vc,I_ c,I_ depth,I_ C.pos,I_ C.line,I_ C.iU,I_ C.mode,
  I_ (Pu.aU C.lN 0),I_ (Pu.aU C.lN 1),I_ (Pu.aU C.lN 2),I_ (Pu.aU C.lN 3),I_ (Pu.aU C.lN 4),I_ (Pu.aU C.lN 5),I_ (Pu.aU C.lN 6),I_ (Pu.aU C.lN 7),
  I_ C.jy,I_ C.steps,I_ C.ins,I_ C.c,I_ C.looked,I_ C.rule,I_ C.marked,d,.bool ended,I_ fault]
structure Lists(w:W_)(p:lZ)(ve vr vc:V_):Prop where
 e:w.ownsRow 0 3 1 ve p.ents.length (bY p.ents)
 r:w.ownsRow 0 48 3 vr p.rules.length (dP p.rules)
 c:w.ownsRow 0 50 4 vc p.code.length (dw p.code)
theorem dO{e size:Nat}{xs:List V_}(h:w.ownsRow base e size v n xs)(c:dh w g t ys)(l:t≠e)(k:w.grownBy w' (some g)):w'.ownsRow base e size v n xs:=by
 refine World.ownsRow.kept h k ?_;rcases h.2 with ⟨rfl,_⟩ | ⟨p,cap,j,rfl,_,d,_⟩
 .exact .inl rfl
 .right;simp only[Value.ownBlock,ne_eq,Option.some.injEq];intro e;subst e;unfold dh at c;rw[d]at c;simp at c;exact l c.2.symm
theorem VF{e size d:Nat}{xs:List V_}(h:w.ownsRow base e size (s_ d n cap) n xs)(c:dh w g t ys)(r:t≠e):d≠g:=by
 rcases h.2 with ⟨k,_⟩ | ⟨a,b,j,k,_,p,_⟩
 .simp at k
 simp only[Value.slice.injEq,Option.some.injEq,Addr.mk.injEq,and_true,true_and]at k;obtain⟨rfl,rfl⟩:=k;intro l;subst l;unfold dh at c;rw[p]at c;simp at c;exact r c.2.symm
theorem Lists.on{p:lZ}(h:Lists w p ve vr vc)(c:dh w g t ys)(e:t≠3)(j:t≠48)(k:t≠50)(d:w.grownBy w' (some g)):Lists w' p ve vr vc:=
 ⟨dO h.e c e d,dO h.r c j d,dO h.c c k d⟩
theorem Lists.below{p:lZ}(h:Lists w p ve vr vc)(c:B_ w w'):Lists w' p ve vr vc:=
 ⟨bW h.e c dF,bW h.r c dF,bW h.c c dF⟩
structure kP(w:W_)(g:Nat)(E:bI)(ve vr vc vh:V_)(C:bJ)(fault:Int):Prop where
 fB:dh w g 118 (lI ve vr vc vh E.most E.depth C E.ended fault)
 l:Lists w E.p ve vr vc
theorem kP.below{w w':W_}{g:Nat}{E:bI}{ve vr vc c:V_}{C:bJ}{fault:Int}(m:kP w g E ve vr vc c C fault)(h:B_ w w'):kP w' g E ve vr vc c C fault:=
 ⟨bO m.fB h (bP m.fB),m.l.below h⟩
theorem kP.set{w:W_}{g:Nat}{E:bI}{ve vr vc d c:V_}{C D:bJ}{fault fault':Int}(m:kP w g E ve vr vc d C fault)(j:Nat)(u:V_)(E':bI)(e:E'.p=E.p)
  (h:(lI ve vr vc d E.most E.depth C E.ended fault).set j u=lI ve vr vc c E'.most E'.depth D E'.ended fault'):kP (w.setCell (a_ g j) u) g E' ve vr vc c D fault':=by
 refine⟨by rw[<-h];exact cK m.fB j u,?_⟩;rw[e];exact m.l.on m.fB d_ d_ d_ (gs_ w g j u)
theorem kP.drewN{w:W_}{g:Nat}{E:bI}{ve vr vc c:V_}{C:bJ}{fault:Int}(m:kP w g E ve vr vc c C fault)(n:Nat):kP (w.drewN n) g E ve vr vc c C fault:=⟨m.fB,⟨m.l.e,m.l.r,m.l.c⟩⟩
theorem kP.drew{w:W_}{g:Nat}{E:bI}{ve vr vc c:V_}{C:bJ}{fault:Int}(m:kP w g E ve vr vc c C fault):kP w.drew g E ve vr vc c C fault:=⟨m.fB,⟨m.l.e,m.l.r,m.l.c⟩⟩
theorem kP.alloc{w:W_}{g:Nat}{E:bI}{ve vr vc c:V_}{C:bJ}{fault:Int}(m:kP w g E ve vr vc c C fault)(o:Obj):kP (w.alloc o) g E ve vr vc c C fault:=
 m.below (kM o)
theorem kP.frozen{w:W_}{g:Nat}{E:bI}{ve vr vc c:V_}{C:bJ}{fault:Int}(m:kP w g E ve vr vc c C fault)(j:Nat):w.frozen? (a_ g j)=false:=bM m.fB j
theorem lu(h:w.grownBy w' row)(n:Nat):w.grownBy (w'.drewN n) row:=⟨h.1,h.2,h.3,h.4,h.5⟩
theorem tH(h:w.grownBy w' row):w.grownBy w'.drew row:=⟨h.1,h.2,h.3,h.4,h.5⟩
theorem eU(h:w.grownBy w' (some g))(j:Nat)(u:V_):w.grownBy (w'.setCell (a_ g j) u) (some g):=Lib.grownBy_setB h j u
theorem jY(h:w.grownBy w' row)(o:Obj):w.grownBy (w'.alloc o) row:=Lib.grownBy_allocR h o
theorem Ow{c:W_}(h:w.grownBy w' row)(d:B_ w' c):w.grownBy c row:=Lib.grownBy_below h d
theorem kP.cell{w:W_}{g:Nat}{E:bI}{ve vr vc c:V_}{C:bJ}{fault:Int}(m:kP w g E ve vr vc c C fault){j:Nat}{u:V_}(h:(lI ve vr vc c E.most E.depth C E.ended fault)[j]?=some u):w.cell? (a_ g j)=some u:=bN m.fB h
theorem sH{h:V_}{c:Int}{C:bJ}{d:Nat}(e:d<8):(lI ve vr vc h c depth C ended fault)[9+d]?=some (I_ (Pu.aU C.lN d)):=by
 match d,e with
 | 0,_=>rfl
 | 1,_=>rfl
 | 2,_=>rfl
 | 3,_=>rfl
 | 4,_=>rfl
 | 5,_=>rfl
 | 6,_=>rfl
 | 7,_=>rfl
theorem IY{h:V_}{c:Int}{C:bJ}{d:Nat}(j:d<8)(l:C.lN.length=8)(x:Int) :
  (lI ve vr vc h c depth C ended fault).set (9+d) (I_ x)=lI ve vr vc h c depth { C with lN:=C.lN.set d x } ended fault:=by
 have e:∀k,Pu.aU (C.lN.set d x) k=if k=d then x else Pu.aU C.lN k:=fun k=>tF C.lN d k x 0 o_
 unfold lI;simp only[e]
 match d,j with
 | 0,_=>rfl
 | 1,_=>rfl
 | 2,_=>rfl
 | 3,_=>rfl
 | 4,_=>rfl
 | 5,_=>rfl
 | 6,_=>rfl
 | 7,_=>rfl
def mW(w:W_)(v:V_)(s:Y_):Prop:=(s.size=0/\v=n_)\/
 ∃b cap c fr,v=s_ b s.size cap/\s.size<=cap/\cap<=9223372036854775807/\w.heap[b]?=some (c_ c 5 fr)/\∀j,j<s.size->c[j]?=some (.int .u8 (bt s j))
theorem mW.on(h:mW w v s)(c:dh w g t ys)(j:t≠5)(d:w.grownBy w' (some g)):mW w' v s:=by
 rcases h with h | ⟨b,cap,cs,fr,h1,h2,h2',h3,h4⟩
 .exact .inl h
 .refine .inr ⟨b,cap,cs,fr,h1,h2,h2',?_,h4⟩;rw[d.block b (Array.getElem?_eq_some_iff.1 h3).1 ?_]
  .exact h3
  .intro e;cases e;unfold dh at c;rw[h3]at c;simp at c;exact j c.2.1.symm
theorem mW.below(h:mW w v s)(c:B_ w w'):mW w' v s:=by
 rcases h with h | ⟨b,cap,cs,fr,h1,h2,h2',h3,h4⟩
 .exact .inl h
 .exact .inr ⟨b,cap,cs,fr,h1,h2,h2',by rw[c.block b (Array.getElem?_eq_some_iff.1 h3).1];exact h3,h4⟩
theorem mW.form(h:mW w v s):∃c cap,v=.slice c s.size cap/\s.size<=cap/\cap<=9223372036854775807:=by
 rcases h with ⟨d,rfl⟩ | ⟨b,cap,k,fr,rfl,e,j,_⟩
 .exact⟨none,0,by rw[d],o_,o_⟩
 .exact⟨_,cap,rfl,e,j⟩
theorem Lists.Qs{p:lZ}(h:Lists w p ve vr vc)(j:gu p):(∃ge d,ve=s_ ge p.ents.length d/\p.ents.length<=d/\d<=9223372036854775807)/\(∃l e,vr=s_ l p.rules.length e/\p.rules.length<=e/\e<=9223372036854775807)/\(∃k c,vc=s_ k p.code.length c/\p.code.length<=c/\c<=9223372036854775807):=
 ⟨dL h.e (by have:=j.1.1;omega),dL h.r (by have:=j.2.1.1;omega),dL h.c (by have:=j.2.2.1.1;omega)⟩
theorem GM{l:List mg}(h:w.ownsRow base 48 3 (s_ g n cap) n (dP l))(c:i<l.length) :
  w.cell? (a_ g (i*3))=some (I_ (Pu.rg l i).emit)/\w.cell? (a_ g (i*3+1))=some (I_ (Pu.rg l i).act)/\w.cell? (a_ g (i*3+2))=some (I_ (Pu.rg l i).mode):=by
 have q:=pz l i c;rw[Nat.mul_comm]at q;exact⟨bV h q.1,bV h q.2.1,bV h q.2.2⟩
theorem EH{l:List Int}(h:w.ownsRow base 3 1 (s_ g n cap) n (bY l))(c:i<l.length) :
  w.cell? (a_ g i)=some (I_ (Pu.aU l i)):=bV h (oo l i c)
end Go.Proofs.YtmccnmgaoppogabGreat
