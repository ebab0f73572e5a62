import Derived.Test.YtmccnmgaoppogaaGreatGB
namespace Go.Proofs.YtmccnmgaoppogaaGreat
open Pu
set_option linter.all false
set_option maxRecDepth 100000
set_option maxHeartbeats 8000000
variable {w:List Nat} {g:Nat}
namespace Pu
def ER (len p:Nat):Nat:=if p<len then p+1 else len+1
def Ac (w:List Nat):Nat->List Nat->Nat->Prop
 | p,[],q=>q=p
 | p,c::u,q=>c<256/\(∀x,w[p]?=some x->c=x)/\Ac w (ER w.length p) u q
theorem Ac.app:∀{u v:List Nat} {p q r:Nat},Ac w p u q->Ac w q v r->Ac w p (u++v) r:=by
 intro u
 induction u with
 | nil=>intro v p q r h1 h2;have e:q=p:=h1;subst e;exact h2
 | cons c u ih=>intro v p q r h1 h2;exact⟨h1.1,h1.2.1,ih h1.2.2 h2⟩
theorem Ac.parts:∀{u v:List Nat} {p r:Nat},Ac w p (u++v) r->∃q,Ac w p u q/\Ac w q v r:=by
 intro u
 induction u with
 | nil=>intro v p r h;exact⟨p,rfl,h⟩
 | cons c u ih=>intro v p r h;obtain⟨q,h1,h2⟩:=ih h.2.2;exact⟨q,⟨h.1,h.2.1,h1⟩,h2⟩
theorem Ac.beyond:∀{u:List Nat} {p q:Nat},w.length<p->Ac w p u q->u≠[]->q=w.length+1:=by
 intro u
 induction u with
 | nil=>intro p q _ _ h;exact absurd rfl h
 | cons c u ih=>
  intro p q hp h _;have e:ER w.length p=w.length+1:=by unfold ER;rw [if_neg (by omega)]
  have h2:=h.2.2;rw [e] at h2
  cases u with
  | nil=>exact h2
  | cons d u=>exact ih (by omega) h2 (by simp)
theorem Ac.ae4:∀{u:List Nat} {p:Nat},p<=w.length->Ac w p u w.length->u=w.drop p:=by
 intro u
 induction u with
 | nil=>intro p _ h;have e:w.length=p:=h;rw [<-e,List.drop_length]
 | cons c u ih=>
  intro p hp h;by_cases c1:p<w.length
  .have h2:=h.2.2;rw [show ER w.length p=p+1 by unfold ER;rw [if_pos c1]] at h2;rw [List.drop_eq_getElem_cons c1,<-ih (by omega) h2,h.2.1 _ (gg_ c1)]
  .exfalso;have h2:=h.2.2;rw [show ER w.length p=w.length+1 by unfold ER;rw [if_neg c1]] at h2
   cases u with
   | nil=>have e:w.length=w.length+1:=h2;omega
   | cons d u=>have:=h2.beyond (by omega) (by simp);omega
theorem Ac.ZN (hw:∀c∈w,c<256):∀{u:List Nat} {p:Nat},p<=w.length->u=w.drop p->Ac w p u w.length:=by
 intro u
 induction u with
 | nil=>
  intro p hp h;have:(w.drop p).length=0:=by rw [<-h];rfl
  rw [List.length_drop] at this;show w.length=p;omega
 | cons c u ih=>
  intro p hp h
  have c1:p<w.length:=by
   have:(w.drop p).length=u.length+1:=by rw [<-h];rfl
   rw [List.length_drop] at this;omega
  rw [List.drop_eq_getElem_cons c1] at h;have h1:=(List.cons.inj h).1;have h2:=(List.cons.inj h).2;refine⟨by rw [h1];exact hw _ (List.getElem_mem c1),fun x hx=>?_,?_⟩
  .rw [gg_ c1] at hx;rw [h1];exact oi_ hx
  .rw [show ER w.length p=p+1 by unfold ER;rw [if_pos c1]];exact ih (by omega) h2
theorem Ac.acT:∀{u:List Nat} {p:Nat},p<=w.length->Ac w p u (w.length+1)->∃v,v≠[]/\(∀c∈v,c<256)/\u=w.drop p++v:=by
 have all:∀{u:List Nat} {p q:Nat},Ac w p u q->∀c∈u,c<256:=by
  intro u
  induction u with
  | nil=>intro p q _ c hc;simp at hc
  | cons d u ih=>
   intro p q h c hc;rcases mm_.1 hc with rfl | hc
   .exact h.1
   .exact ih h.2.2 c hc
 intro u
 induction u with
 | nil=>intro p hp h;have e:w.length+1=p:=h;omega
 | cons c u ih=>
  intro p hp h;by_cases c1:p<w.length
  .have h2:=h.2.2;rw [show ER w.length p=p+1 by unfold ER;rw [if_pos c1]] at h2;obtain⟨v,v0,v1,v2⟩:=ih (by omega) h2;refine⟨v,v0,v1,?_⟩;rw [List.drop_eq_getElem_cons c1,List.cons_append,<-v2,h.2.1 _ (gg_ c1)]
  .have e:p=w.length:=by omega
   refine⟨c::u,by simp,all h,?_⟩;rw [e,List.drop_length];rfl
theorem Ac.acs (hw:∀c∈w,c<256) {v:List Nat} (h0:v≠[]) (hv:∀c∈v,c<256):Ac w 0 (w++v) (w.length+1):=by
 refine (Ac.ZN hw (u:=w) (zl_ _) rfl).app (q:=w.length) ?_
 have key:∀{v:List Nat} {p:Nat},w.length<=p->v≠[]->(∀c∈v,c<256)->Ac w p v (w.length+1):=by
  intro v
  induction v with
  | nil=>intro p _ h;exact absurd rfl h
  | cons c v ih=>
   intro p hp _ hv;refine⟨hv c (ms_ ..),fun x hx=>?_,?_⟩
   .have:=(ge_.1 hx).1;omega
   .rw [show ER w.length p=w.length+1 by unfold ER;rw [if_neg (by omega)]]
    cases v with
    | nil=>rfl
    | cons d v=>exact ih (by omega) (by simp) (fun c hc=>hv c (mc_ _ hc))
 exact key di h0 hv
theorem Bu {a:aM} {v u:List Nat} (hv:M (.star a) v) (hu:M a u):M (.star a) (v++u):=by
 generalize e:aM.star a=x at hv
 induction hv with
 | sD=>cases e;have:=M.uJ hu (M.sD);simpa using this
 | uJ h1 h2 _ ih=>cases e;rw [aa_];exact .uJ h1 (ih rfl)
 | pl _=>cases e
 | cat _ _=>cases e
 | Gp _=>cases e
 | Gq _=>cases e
 | plus _ _=>cases e
 | JD=>cases e
 | JE _=>cases e
theorem KH {a:aM} {v u:List Nat} (hv:M (.star a) v) (hu:M a u):M (.plus a) (v++u):=by
 cases hv with
 | sD=>have:=M.plus hu (M.sD);simpa using this
 | uJ h1 h2=>rw [aa_];exact .plus h1 (Bu h2 hu)
def nI (w:List Nat) (x:aM) (B:Nat->Prop) (q:Nat):Prop:=∃p u,B p/\M x u/\Ac w p u q
section
variable {w:List Nat} {a b:aM} {B:Nat->Prop} {q:Nat}
theorem nI.cat (h:nI w b (nI w a B) q):nI w (.cat a b) B q:=by obtain⟨r,v,⟨p,u,h1,h2,h3⟩,h4,h5⟩:=h;exact⟨p,u++v,h1,.cat h2 h4,h3.app h5⟩
theorem nI.Gp (h:nI w a B q):nI w (.alt a b) B q:=by obtain⟨p,u,h1,h2,h3⟩:=h;exact⟨p,u,h1,.Gp h2,h3⟩
theorem nI.Gq (h:nI w b B q):nI w (.alt a b) B q:=by obtain⟨p,u,h1,h2,h3⟩:=h;exact⟨p,u,h1,.Gq h2,h3⟩
theorem nI.sD (h:B q):nI w (.star a) B q:=⟨q,[],h,.sD,rfl⟩
theorem nI.uJ (h:nI w a (nI w (.star a) B) q):nI w (.star a) B q:=by obtain⟨r,v,⟨p,u,h1,h2,h3⟩,h4,h5⟩:=h;exact⟨p,u++v,h1,Bu h2 h4,h3.app h5⟩
theorem nI.plus (h:nI w a (nI w (.star a) B) q):nI w (.plus a) B q:=by obtain⟨r,v,⟨p,u,h1,h2,h3⟩,h4,h5⟩:=h;exact⟨p,u++v,h1,KH h2 h4,h3.app h5⟩
theorem nI.JD (h:B q):nI w (.opt a) B q:=⟨q,[],h,.JD,rfl⟩
theorem nI.JE (h:nI w a B q):nI w (.opt a) B q:=by obtain⟨p,u,h1,h2,h3⟩:=h;exact⟨p,u,h1,.JE h2,h3⟩
end
def kH (w:List Nat):aM->Nat->(Nat->Prop)->Nat->Nat->Prop
 | .pl _,m,B,j,p=>j=m/\B p
 | .cat a b,m,B,j,p=>(j=m+a.size+b.size/\B p)\/kH w a m B j p\/kH w b (m+a.size) (nI w a B) j p
 | .alt a b,m,B,j,p=>(j=m+a.size+b.size/\B p)\/kH w a m B j p\/kH w b (m+a.size) B j p
 | .star a,m,B,j,p=>(j=m+a.size/\B p)\/kH w a m (nI w (.star a) B) j p
 | .plus a,m,B,j,p=>(j=m+a.size/\B p)\/kH w a m (nI w (.star a) B) j p
 | .opt a,m,B,j,p=>(j=m+a.size/\B p)\/kH w a m B j p
def kI (w:List Nat):aM->Nat->(Nat->Prop)->Nat->Nat->Prop
 | .pl T,m,B,j,q=>j=m/\nI w (.pl T) B q
 | .cat a b,m,B,j,q=>(j=m+a.size+b.size/\nI w (.cat a b) B q)\/kI w a m B j q\/kI w b (m+a.size) (nI w a B) j q
 | .alt a b,m,B,j,q=>(j=m+a.size+b.size/\nI w (.alt a b) B q)\/kI w a m B j q\/kI w b (m+a.size) B j q
 | .star a,m,B,j,q=>(j=m+a.size/\nI w (.star a) B q)\/kI w a m (nI w (.star a) B) j q
 | .plus a,m,B,j,q=>(j=m+a.size/\nI w (.plus a) B q)\/kI w a m (nI w (.star a) B) j q
 | .opt a,m,B,j,q=>(j=m+a.size/\nI w (.opt a) B q)\/kI w a m B j q
section
variable {w:List Nat}
theorem qA:∀(x:aM) {m:Nat} {B:Nat->Prop} {j p:Nat},kH w x m B j p->m<=j/\j<m+x.size:=by
 intro x
 induction x with
 | pl T=>intro m B j p h;simp only [aM.size];have:=h.1;omega
 | cat a b iha ihb=>
  intro m B j p h;simp only [aM.size];rcases h with ⟨h,_⟩ | h | h
  .omega
  .have:=iha h;omega
  .have:=ihb h;omega
 | alt a b iha ihb=>
  intro m B j p h;simp only [aM.size];rcases h with ⟨h,_⟩ | h | h
  .omega
  .have:=iha h;omega
  .have:=ihb h;omega
 | star a ih=>?_
 | plus a ih=>?_
 | opt a ih=>?_
 all_goals
  intro m B j p h;simp only [aM.size];rcases h with ⟨h,_⟩ | h
  .omega
  .have:=ih h;omega
theorem pW:∀(x:aM) {m:Nat} {B:Nat->Prop} {j p:Nat},kI w x m B j p->m<=j/\j<m+x.size:=by
 intro x
 induction x with
 | pl T=>intro m B j p h;simp only [aM.size];have:=h.1;omega
 | cat a b iha ihb=>
  intro m B j p h;simp only [aM.size];rcases h with ⟨h,_⟩ | h | h
  .omega
  .have:=iha h;omega
  .have:=ihb h;omega
 | alt a b iha ihb=>
  intro m B j p h;simp only [aM.size];rcases h with ⟨h,_⟩ | h | h
  .omega
  .have:=iha h;omega
  .have:=ihb h;omega
 | star a ih=>?_
 | plus a ih=>?_
 | opt a ih=>?_
 all_goals
  intro m B j p h;simp only [aM.size];rcases h with ⟨h,_⟩ | h
  .omega
  .have:=ih h;omega
theorem Tv {P Q R:Prop} (h1:¬P) (h2:¬R):(P\/Q\/R)↔Q:=⟨fun h=>h.elim (fun h=>absurd h h1) (fun h=>h.elim id (fun h=>absurd h h2)),fun h=>.inr (.inl h)⟩
theorem Tw {P Q R:Prop} (h1:¬P) (h2:¬Q):(P\/Q\/R)↔R:=⟨fun h=>h.elim (fun h=>absurd h h1) (fun h=>h.elim (fun h=>absurd h h2) id),fun h=>.inr (.inr h)⟩
theorem adB {P Q R:Prop} (h1:¬Q) (h2:¬R):(P\/Q\/R)↔P:=⟨fun h=>h.elim id (fun h=>h.elim (fun h=>absurd h h1) (fun h=>absurd h h2)),fun h=>.inl h⟩
theorem Iz {P Q:Prop} (h1:¬P):(P\/Q)↔Q:=⟨fun h=>h.elim (fun h=>absurd h h1) id,fun h=>.inr h⟩
theorem IA {P Q:Prop} (h1:¬Q):(P\/Q)↔P:=⟨fun h=>h.elim id (fun h=>absurd h h1),fun h=>.inl h⟩
theorem jM (x:aM) {m:Nat} {B:Nat->Prop} {p:Nat}:kH w x m B (m+x.size-1) p↔B p:=by
 cases x with
 | pl T=>simp [kH,aM.size]
 | cat a b=>?_
 | alt a b=>?_
 | star a=>exact (IA (fun h=>by have:=qA a h;simp only [aM.size] at this;omega)).trans ⟨fun h=>h.2,fun h=>⟨by simp only [aM.size];omega,h⟩⟩
 | plus a=>exact (IA (fun h=>by have:=qA a h;simp only [aM.size] at this;omega)).trans ⟨fun h=>h.2,fun h=>⟨by simp only [aM.size];omega,h⟩⟩
 | opt a=>exact (IA (fun h=>by have:=qA a h;simp only [aM.size] at this;omega)).trans ⟨fun h=>h.2,fun h=>⟨by simp only [aM.size];omega,h⟩⟩
 all_goals
  refine (adB (fun h=>?_) (fun h=>?_)).trans ⟨fun h=>h.2,fun h=>⟨by simp only [aM.size];omega,h⟩⟩
  .have h2:=qA a h;have:=b.size_pos;simp only [aM.size] at h2;omega
  .have:=qA b h;simp only [aM.size] at this;omega
theorem jN (x:aM) {m:Nat} {B:Nat->Prop} {q:Nat}:kI w x m B (m+x.size-1) q↔nI w x B q:=by
 cases x with
 | pl T=>simp [kI,aM.size]
 | cat a b=>?_
 | alt a b=>?_
 | star a=>exact (IA (fun h=>by have:=pW a h;simp only [aM.size] at this;omega)).trans ⟨fun h=>h.2,fun h=>⟨by simp only [aM.size];omega,h⟩⟩
 | plus a=>exact (IA (fun h=>by have:=pW a h;simp only [aM.size] at this;omega)).trans ⟨fun h=>h.2,fun h=>⟨by simp only [aM.size];omega,h⟩⟩
 | opt a=>exact (IA (fun h=>by have:=pW a h;simp only [aM.size] at this;omega)).trans ⟨fun h=>h.2,fun h=>⟨by simp only [aM.size];omega,h⟩⟩
 all_goals
  refine (adB (fun h=>?_) (fun h=>?_)).trans ⟨fun h=>h.2,fun h=>⟨by simp only [aM.size];omega,h⟩⟩
  .have h2:=pW a h;have:=b.size_pos;simp only [aM.size] at h2;omega
  .have:=pW b h;simp only [aM.size] at this;omega
end
theorem Kn:∀(x:aM) {m k:Nat} {y:aF},(nodes x m)[k]?=some y->y.kind≠1->(m<=y.l/\y.l<m+k)/\(y.kind=2\/y.kind=3->m<=y.r/\y.r<m+k):=by
 intro x
 have two:∀(a b:aM) (top:Nat) (m k:Nat) (y:aF),(top=2\/top=3)->(∀{m k:Nat} {y:aF},(nodes a m)[k]?=some y->y.kind≠1->(m<=y.l/\y.l<m+k)/\(y.kind=2\/y.kind=3->m<=y.r/\y.r<m+k))->(∀{m k:Nat} {y:aF},(nodes b m)[k]?=some y->y.kind≠1->(m<=y.l/\y.l<m+k)/\(y.kind=2\/y.kind=3->m<=y.r/\y.r<m+k))->
   (nodes a m++nodes b (m+a.size)++[⟨top,m+a.size-1,m+a.size+b.size-1,dP⟩])[k]?=some y->y.kind≠1->(m<=y.l/\y.l<m+k)/\(y.kind=2\/y.kind=3->m<=y.r/\y.r<m+k):=by
  intro a b top m k y _ iha ihb h hk;have pa:=a.size_pos;have pb:=b.size_pos;by_cases c1:k<a.size
  .rw [aa_,al_ (by rw [bR];exact c1)] at h;exact iha h hk
  .by_cases c2:k<a.size+b.size
   .rw [aa_,ar_ (by rw [bR];omega),bR,al_ (by rw [bR];omega)] at h;have:=ihb h hk;refine⟨by omega,fun hh=>?_⟩;have:=this.2 hh;omega
   .have hl:=(ge_.1 h).1;simp only [la_,bR,lc_,ln_] at hl;have e:k=a.size+b.size:=by omega
    subst e;rw [ar_ (by simp [bR])] at h;simp [bR] at h;subst h;exact⟨⟨by show m<=m+a.size-1;omega,by show m+a.size-1<_;omega⟩,fun _=>⟨by show m<=m+a.size+b.size-1;omega,by show m+a.size+b.size-1<_;omega⟩⟩
 have one:∀(a:aM) (top:Nat) (m k:Nat) (y:aF),(top=4\/top=5\/top=6)->(∀{m k:Nat} {y:aF},(nodes a m)[k]?=some y->y.kind≠1->(m<=y.l/\y.l<m+k)/\(y.kind=2\/y.kind=3->m<=y.r/\y.r<m+k))->
   (nodes a m++[⟨top,m+a.size-1,0,dP⟩])[k]?=some y->y.kind≠1->(m<=y.l/\y.l<m+k)/\(y.kind=2\/y.kind=3->m<=y.r/\y.r<m+k):=by
  intro a top m k y ht iha h hk;have pa:=a.size_pos;by_cases c1:k<a.size
  .rw [al_ (by rw [bR];exact c1)] at h;exact iha h hk
  .have hl:=(ge_.1 h).1;simp only [la_,bR,lc_,ln_] at hl;have e:k=a.size:=by omega
   subst e;rw [ar_ (by rw [bR];omega)] at h;simp [bR] at h;subst h;exact⟨⟨by show m<=m+a.size-1;omega,by show m+a.size-1<_;omega⟩,fun hh=>by have:top=2\/top=3:=hh;omega⟩
 induction x with
 | pl T=>
  intro m k y h hk
  cases k with
  | zero=>simp [nodes] at h;subst h;exact absurd rfl hk
  | succ k=>simp [nodes] at h
 | cat a b iha ihb=>intro m k y h hk;exact two a b 2 m k y (.inl rfl) iha ihb h hk
 | alt a b iha ihb=>intro m k y h hk;exact two a b 3 m k y (.inr rfl) iha ihb h hk
 | star a ih=>intro m k y h hk;exact one a 4 m k y (.inl rfl) ih h hk
 | plus a ih=>intro m k y h hk;exact one a 5 m k y (.inr (.inl rfl)) ih h hk
 | opt a ih=>intro m k y h hk;exact one a 6 m k y (.inr (.inr rfl)) ih h hk
end Pu
open Go.RowKit
theorem Dr.get {B i:Nat} {s:Y_} {ns:List aF} {vn vl:V_} {modes down:Int} {W:W_} (h:Dr B g s i ns vn vl modes down W) {p:Nat} {x:aF} (hp:ns[p]?=some x) :
  ∃gn cap,vn=s_ gn ns.length cap/\W.rangeAt gn (p*259) (dN x):=by
 have hl:p<ns.length:=(ge_.1 hp).1;obtain⟨gn,cap,e,_,_⟩:=dJ h.own (by omega);subst e;refine⟨gn,cap,rfl,?_⟩;intro j u hu;have hj:j<259:=by have:=(ge_.1 hu).1;rw [gI] at this;exact this
 have:=acm hp hj;rw [hu] at this;exact bT h.own this
namespace Pu
theorem ag.two {ns:List aF} {a b:aM} {m:Nat} {x:aF} (h:∀i y,(nodes a m++nodes b (m+a.size)++[x])[i]?=some y->ns[m+i]?=some y):ag ns a m/\ag ns b (m+a.size)/\ns[m+a.size+b.size]?=some x:=by refine⟨ag.left h,ag.right (bR a m) h,?_⟩;have:=h (a.size+b.size) x (by rw [ar_ (by simp [bR])];simp [bR]);rwa [<-Nat.add_assoc] at this
theorem ag.one {ns:List aF} {a:aM} {m:Nat} {x:aF} (h:∀i y,(nodes a m++[x])[i]?=some y->ns[m+i]?=some y):ag ns a m/\ns[m+a.size]?=some x:=by refine⟨fun i y hy=>h i y (by rw [al_ (ge_.1 hy).1];exact hy),?_⟩;exact h a.size x (by rw [ar_ (by simp [bR])];simp [bR])
end Pu
def lH (w:W_) (x:aF):W_:=(w.alloc (c_ xX.toArray 161)).setCells w.heap.size 0 (dN x)
theorem kE (w:W_) (x:aF):B_ w (lH w x):=ky (g:=w.heap.size) di _ 0 _ ((Br_ w.heap.size w).alloc di _)
theorem nD (w:W_) (x:aF):dh (lH w x) w.heap.size 161 (dN x):=by have x0:dh (w.alloc (c_ xX.toArray 161)) w.heap.size 161 xX:=hn_ _ _;exact oK _ x0 (by rw [vg,gI])
theorem UH (B g i:Nat) (s:Y_) (ns:List aF) (vn vl:V_) (modes down:Int) (_hn:ns.length<=100000) (re:aM):∀(m:Nat) (w:W_),Dr B g s i ns vn vl modes down w->Pu.ag ns re m->
  C_ 29 #[p_ g,I_ ((m+re.size-1:Nat):Int)] w (mW (.bool re.iM) w):=by
 induction re with
 | pl T=>?_
 | cat a b iha ihb=>?_
 | alt a b iha ihb=>?_
 | star a ih=>?_
 | plus a ih=>?_
 | opt a ih=>?_
 focus
  intro m w hd hat;have hx:ns[m]?=some ⟨1,0,0,T⟩:=hat 0 _ rfl
 rotate_left
 focus
  intro m w hd hat;obtain⟨ha,hb,hx⟩:=Pu.ag.two hat;have CA:=bK (fun W d=>iha m W d ha);have CB:=bK (fun W d=>ihb (m+a.size) W d hb);clear iha ihb ha hb
 rotate_left
 focus
  intro m w hd hat;obtain⟨ha,hb,hx⟩:=Pu.ag.two hat;have CA:=bK (fun W d=>iha m W d ha);have CB:=bK (fun W d=>ihb (m+a.size) W d hb);clear iha ihb ha hb
 rotate_left
 focus
  intro m w hd hat;obtain⟨ha,hx⟩:=Pu.ag.one hat;have CA:=bK (fun W d=>ih m W d ha);clear ih ha
 rotate_left
 focus
  intro m w hd hat;obtain⟨ha,hx⟩:=Pu.ag.one hat;have CA:=bK (fun W d=>ih m W d ha);clear ih ha
 rotate_left
 focus
  intro m w hd hat;obtain⟨ha,hx⟩:=Pu.ag.one hat;have CA:=bK (fun W d=>ih m W d ha);clear ih ha
 rotate_left
 all_goals
  obtain⟨gn,cap,rfl,hr⟩:=hd.get hx
 focus
  have hm:m<ns.length:=(ge_.1 hx).1;rw [show m+(aM.pl T).size-1=m by simp only [aM.size];omega];generalize hp:m=p at *
 rotate_left
 focus
  have hm:m+a.size+b.size<ns.length:=(ge_.1 hx).1;rw [show m+(aM.cat a b).size-1=m+a.size+b.size by simp only [aM.size];omega];generalize Pu.dP=T at *;generalize m+a.size+b.size-1=pb at *;generalize m+a.size-1=pa at *;generalize hp:m+a.size+b.size=p at *
 rotate_left
 focus
  have hm:m+a.size+b.size<ns.length:=(ge_.1 hx).1;rw [show m+(aM.alt a b).size-1=m+a.size+b.size by simp only [aM.size];omega];generalize Pu.dP=T at *;generalize m+a.size+b.size-1=pb at *;generalize m+a.size-1=pa at *;generalize hp:m+a.size+b.size=p at *
 rotate_left
 focus
  have hm:m+a.size<ns.length:=(ge_.1 hx).1;rw [show m+(aM.star a).size-1=m+a.size by simp only [aM.size];omega];generalize Pu.dP=T at *;generalize m+a.size-1=pa at *;generalize hp:m+a.size=p at *
 rotate_left
 focus
  have hm:m+a.size<ns.length:=(ge_.1 hx).1;rw [show m+(aM.plus a).size-1=m+a.size by simp only [aM.size];omega];generalize Pu.dP=T at *;generalize m+a.size-1=pa at *;generalize hp:m+a.size=p at *
 rotate_left
 focus
  have hm:m+a.size<ns.length:=(ge_.1 hx).1;rw [show m+(aM.opt a).size-1=m+a.size by simp only [aM.size];omega];generalize Pu.dP=T at *;generalize m+a.size-1=pa at *;generalize hp:m+a.size=p at *
 rotate_left
 all_goals
  have aS:=jg p;have i1:(p:Int)<ns.length:=by omega
  have c1:=bP 1 hd.rb rfl;have zv:=mg;have HR:=bK hr
 focus
  have B1:=bK (kE w ⟨1,0,0,T⟩);have BX:=bK (nD w ⟨1,0,0,T⟩)
 rotate_left
 focus
  have B1:=bK (kE w ⟨2,pa,pb,T⟩);have BX:=bK (nD w ⟨2,pa,pb,T⟩)
 rotate_left
 focus
  have B1:=bK (kE w ⟨3,pa,pb,T⟩);have BX:=bK (nD w ⟨3,pa,pb,T⟩)
 rotate_left
 focus
  have B1:=bK (kE w ⟨4,pa,0,T⟩);have BX:=bK (nD w ⟨4,pa,0,T⟩)
 rotate_left
 focus
  have B1:=bK (kE w ⟨5,pa,0,T⟩);have BX:=bK (nD w ⟨5,pa,0,T⟩)
 rotate_left
 focus
  have B1:=bK (kE w ⟨6,pa,0,T⟩);have BX:=bK (nD w ⟨6,pa,0,T⟩)
 rotate_left
 all_goals
  have D1:=bK (hd.below B1.o);clear hr hd hx hat hp;go_enter Tryz.func29,Tryz.ntmps29
 .go_upto_region 2 with (first | (refine wl_ rfl 161 (.tmp 15) rfl gn (p*259) rfl _ _ HR.o Tryz.underlying161 rfl iq ?_) | (refine ws_ rfl 161 (.tmp 5) (.tmp 16) rfl w.heap.size 0 (dN ⟨1,0,0,T⟩).toArray rfl rfl (iY _) (lY _) (oc_ (iO _)) ?_))
  clear c1 zv HR;rw [show (w.alloc (c_ xX.toArray 161)).setCells w.heap.size 0 (dN ⟨1,0,0,T⟩)=lH w ⟨1,0,0,T⟩ from rfl];generalize lH w ⟨1,0,0,T⟩=W1 at *;have y0:=bP 0 BX.o rfl;have y1:=bP 1 BX.o rfl;have y2:=bP 2 BX.o rfl;have L1:=bO BX.o;go_wp2;go_ret;exact⟨rfl,B1.o⟩
 focus
  go_upto_region 2 with (first | (refine wl_ rfl 161 (.tmp 15) rfl gn (p*259) rfl _ _ HR.o Tryz.underlying161 rfl iq ?_) | (refine ws_ rfl 161 (.tmp 5) (.tmp 16) rfl w.heap.size 0 (dN ⟨2,pa,pb,T⟩).toArray rfl rfl (iY _) (lY _) (oc_ (iO _)) ?_));clear c1 zv HR;rw [show (w.alloc (c_ xX.toArray 161)).setCells w.heap.size 0 (dN ⟨2,pa,pb,T⟩)=lH w ⟨2,pa,pb,T⟩ from rfl];generalize lH w ⟨2,pa,pb,T⟩=W1 at *
 rotate_left
 focus
  go_upto_region 2 with (first | (refine wl_ rfl 161 (.tmp 15) rfl gn (p*259) rfl _ _ HR.o Tryz.underlying161 rfl iq ?_) | (refine ws_ rfl 161 (.tmp 5) (.tmp 16) rfl w.heap.size 0 (dN ⟨3,pa,pb,T⟩).toArray rfl rfl (iY _) (lY _) (oc_ (iO _)) ?_));clear c1 zv HR;rw [show (w.alloc (c_ xX.toArray 161)).setCells w.heap.size 0 (dN ⟨3,pa,pb,T⟩)=lH w ⟨3,pa,pb,T⟩ from rfl];generalize lH w ⟨3,pa,pb,T⟩=W1 at *
 rotate_left
 .go_upto_region 2 with (first | (refine wl_ rfl 161 (.tmp 15) rfl gn (p*259) rfl _ _ HR.o Tryz.underlying161 rfl iq ?_) | (refine ws_ rfl 161 (.tmp 5) (.tmp 16) rfl w.heap.size 0 (dN ⟨4,pa,0,T⟩).toArray rfl rfl (iY _) (lY _) (oc_ (iO _)) ?_))
  clear c1 zv HR;rw [show (w.alloc (c_ xX.toArray 161)).setCells w.heap.size 0 (dN ⟨4,pa,0,T⟩)=lH w ⟨4,pa,0,T⟩ from rfl];generalize lH w ⟨4,pa,0,T⟩=W1 at *;have y0:=bP 0 BX.o rfl;have y1:=bP 1 BX.o rfl;have y2:=bP 2 BX.o rfl;have L1:=bO BX.o;clear CA;go_wp2;go_ret;exact⟨rfl,B1.o⟩
 .go_upto_region 2 with (first | (refine wl_ rfl 161 (.tmp 15) rfl gn (p*259) rfl _ _ HR.o Tryz.underlying161 rfl iq ?_) | (refine ws_ rfl 161 (.tmp 5) (.tmp 16) rfl w.heap.size 0 (dN ⟨5,pa,0,T⟩).toArray rfl rfl (iY _) (lY _) (oc_ (iO _)) ?_))
  clear c1 zv HR;rw [show (w.alloc (c_ xX.toArray 161)).setCells w.heap.size 0 (dN ⟨5,pa,0,T⟩)=lH w ⟨5,pa,0,T⟩ from rfl];generalize lH w ⟨5,pa,0,T⟩=W1 at *;have y0:=bP 0 BX.o rfl;have y1:=bP 1 BX.o rfl;have y2:=bP 2 BX.o rfl;have L1:=bO BX.o
  go_wp2_with fail
  refine (CA.o _ D1.o).mono ?_
  clear CA;rintro e w2 ⟨rfl,hb2⟩;have B2:=bK (B1.o.trans (hb2.mono B1.o.size));have R:Hid ((aM.plus a).iM=a.iM):=rfl;generalize a.iM=ae at *;clear hb2 y0 y1 y2 D1 B1 BX;go_wp2;go_ret;exact⟨by rw [R.o];rfl,B2.o⟩
 .go_upto_region 2 with (first | (refine wl_ rfl 161 (.tmp 15) rfl gn (p*259) rfl _ _ HR.o Tryz.underlying161 rfl iq ?_) | (refine ws_ rfl 161 (.tmp 5) (.tmp 16) rfl w.heap.size 0 (dN ⟨6,pa,0,T⟩).toArray rfl rfl (iY _) (lY _) (oc_ (iO _)) ?_))
  clear c1 zv HR;rw [show (w.alloc (c_ xX.toArray 161)).setCells w.heap.size 0 (dN ⟨6,pa,0,T⟩)=lH w ⟨6,pa,0,T⟩ from rfl];generalize lH w ⟨6,pa,0,T⟩=W1 at *;have y0:=bP 0 BX.o rfl;have y1:=bP 1 BX.o rfl;have y2:=bP 2 BX.o rfl;have L1:=bO BX.o;clear CA;go_wp2;go_ret;exact⟨rfl,B1.o⟩
 all_goals
  have y0:=bP 0 BX.o rfl;have y1:=bP 1 BX.o rfl;have y2:=bP 2 BX.o rfl;have L1:=bO BX.o
  go_wp2_with fail
  refine (CA.o _ D1.o).mono ?_
  clear CA;rintro e w2 ⟨rfl,hb2⟩;have y2':=bP 2 (bN BX.o hb2 L1) rfl;have D2:=bK (D1.o.below hb2);have B2:=bK (B1.o.trans (hb2.mono B1.o.size));clear hb2 y0 y1 y2 D1 B1 BX
  go_wp2_with fail
  refine (CB.o _ D2.o).mono ?_
  clear CB;rintro e w3 ⟨rfl,hb3⟩;have B3:=bK (B2.o.trans (hb3.mono B2.o.size));clear hb3 y2' D2 B2
 focus have R:Hid ((aM.cat a b).iM=(a.iM && b.iM)):=rfl
 rotate_left
 focus have R:Hid ((aM.alt a b).iM=(a.iM || b.iM)):=rfl
 all_goals
  cases ea:a.iM with
  | true=>go_wp2;go_ret;exact⟨by rw [R.o,ea];rfl,B3.o⟩
  | false=>go_wp2;go_ret;exact⟨by rw [R.o,ea];rfl,B3.o⟩
structure Gk (gs:List Nat) (w w':W_):Prop where
 os:w'.os=w.os
 tape:w'.tape=w.tape
 output:w'.output=w.output
 size:w.heap.size<=w'.heap.size
 block:∀k,k<w.heap.size->k∉gs->w'.heap[k]?=w.heap[k]?
section
variable {gs:List Nat} {w w' w'':W_}
theorem Gk.refl (gs:List Nat) (w:W_):Gk gs w w:=⟨rfl,rfl,rfl,di,fun _ _ _=>rfl⟩
theorem Gk.trans (h:Gk gs w w') (h':Gk gs w' w''):Gk gs w w'':=⟨h'.os.trans h.os,h'.tape.trans h.tape,h'.output.trans h.output,lt_ h.size h'.size,fun k hk hn=>(h'.block k (Nat.lt_of_lt_of_le hk h.size) hn).trans (h.block k hk hn)⟩
theorem Gk.below (h:B_ w w'):Gk gs w w':=⟨h.os,h.tape,h.output,h.size,fun k hk _=>h.block k hk⟩
theorem Gk.grown (h:w.grownBy w' (some g)) (hg:g∈gs):Gk gs w w':=⟨h.os,h.tape,h.output,h.size,fun k hk hn=>h.block k hk (fun e=>by cases e;exact hn hg)⟩
theorem Gk.fA {t:Nat} {xs:List V_} (h:Gk gs w w') (hb:dh w g t xs) (hg:g∉gs):dh w' g t xs:=by unfold dh;rw [h.block g (bO hb) hg];exact hb
end
structure Gf (W:W_) (gg gr gf cap n:Nat) (gs:List Nat) (fo:Nat->Nat->Bool):Prop where
 b:dh W gg 202 [p_ gr,s_ gf n cap]
 own:W.ownsRow 0 203 1 (s_ gf n cap) n (mX n gs)
 len:gs.length=n
 row:∀i g,gs[i]?=some g->Bl W g n (fo i)
 nd:gs.Nodup
section
variable {W W':W_} {gg gr gf cap n:Nat} {gs:List Nat} {fo Gm:Nat->Nat->Bool}
theorem Gf.below (h:Gf W gg gr gf cap n gs fo) (hb:B_ W W'):Gf W' gg gr gf cap n gs fo:=
 ⟨bN h.b hb (bO h.b),bU h.own hb di,h.len,fun i g e=>bN (h.row i g e) hb (bO (h.row i g e)),h.nd⟩
theorem Gf.congr (h:Gf W gg gr gf cap n gs fo) (e:∀i k,i<n->k<n->fo i k=Gm i k):Gf W gg gr gf cap n gs Gm:=
 ⟨h.b,h.own,h.len,fun i g hg=>by
  have hi:i<n:=by rw [<-h.len];exact (ge_.1 hg).1
  have:=h.row i g hg;unfold Bl at *;rw [oU (g:=fo i) (fun k hk=>(e i k hi hk).symm)]
  exact this,h.nd⟩
def acL (fo:Nat->Nat->Bool) (i k:Nat) (b:Bool):Nat->Nat->Bool:=fun a c=>if a=i/\c=k then b else fo a c
theorem Gf.set (h:Gf W gg gr gf cap n gs fo) {i:Nat} (hi:gs[i]?=some g) (k:Nat) (b:Bool):Gf (W.setCell (a_ g k) (.bool b)) gg gr gf cap n gs (acL fo i k b)/\Gk gs W (W.setCell (a_ g k) (.bool b)):=by
 have hg:=gs_ W g k (.bool b);have hr:=h.row i g hi;have hm:g∈gs:=mg_ hi;refine⟨⟨?_,dA h.own hr (by decide) hg,h.len,?_,h.nd⟩,.grown hg hm⟩
 .exact bQ h.b hg (fun e=>by cases e;exact dD h.b hr (by decide) rfl)
 .intro j g' hj;by_cases e:j=i
  .subst e;rw [hi] at hj;cases hj;have:=cO hr k (.bool b);rw [CS] at this;unfold Bl;rw [oU (g:=uf (fo j) k b)]
   .exact this
   .intro c _;unfold acL uf;simp
  .have ne:g'≠g:=by intro e';subst e';have h1:=(ge_.1 hi);have h2:=(ge_.1 hj);exact e ((List.getElem_inj (h₀:=h2.1) (h₁:=h1.1) h.nd).1 (h2.2.trans h1.2.symm))
   have:=bQ (h.row j g' hj) hg (fun e'=>ne (oi_ e'));unfold Bl;rw [oU (g:=fo j)]
   .exact this
   .intro c _;unfold acL;rw [if_neg (fun h=>e h.1)]
end
def af1 (v:V_) (gg gr gf cap n:Nat) (gs:List Nat) (fo:Nat->Nat->Bool) (w:W_) (e:Ending) (w':W_):Prop:=
 e=.returned v/\Gk gs w w'/\Gf w' gg gr gf cap n gs fo
theorem yE (gg gr gf cap n ga gb:Nat) (gs:List Nat) (fo:Nat->Nat->Bool) (f1 f2:Nat->Bool) (w:W_) (h:Gf w gg gr gf cap n gs fo) (h1:Bl w ga n f1) (h2:Bl w gb n f2) (na:ga∉gs) (nb:gb∉gs) (hn:n<=100000) :
  C_ 123 #[p_ gg,s_ ga n n,s_ gb n n] w (af1 (.tuple #[]) gg gr gf cap n gs (fun i k=>fo i k || (f1 i && f2 k)) w):=by
 have H:=bK h;have H1:=bK h1;have H2:=bK h2;clear h h1 h2;have NA:=bK na;have NB:=bK nb;clear na nb;go_enter Tryz.func123,Tryz.ntmps123
 go_wp2_with fail
 go_loopg [6,7,8] n (fun gk iv _ _ wx=>∃i:Nat,i<=n/\gk=n-i/\iv=I_ i/\Gk gs w wx/\Gf wx gg gr gf cap n gs (fun a c=>fo a c || (decide (a<i) && (f1 a && f2 c))))
 case atStart=>exact⟨0,zl_ _,rfl,rfl,Gk.refl _ _,H.o.congr (fun a c _ _=>by simp)⟩
 case round=>
  obtain⟨i,i_n,rfl,rfl,hk,hf⟩:=hrel;have HK:=bK hk;have HF:=bK hf;clear hk hf;by_cases hi:i<n
  .have d1:=nV i n;have wi:=kg i;have aS:=jg i;have i1:(i:Int)<n:=by omega
   go_wp2_with fail
   go_loopg [7,14] n (fun gk kv _ wx=>∃k:Nat,k<=n/\gk=n-k/\kv=I_ k/\Gk gs w wx/\Gf wx gg gr gf cap n gs (fun a c=>fo a c || ((decide (a<i) || (decide (a=i) && decide (c<k))) && (f1 a && f2 c))))
   case atStart=>exact⟨0,zl_ _,rfl,rfl,HK.o,HF.o.congr (fun a c _ _=>by simp)⟩
   case round=>
    clear HK HF;obtain⟨k,k_n,rfl,rfl,hk,hf⟩:=hrel;have HK:=bK hk;have HF:=bK hf;by_cases hc:k<n
    .have d2:=nV k n;have wk:=kg k;have k0:=jg k;have k1:(k:Int)<n:=by omega
     have ca:=bM (hk.fA H1.o NA.o) (gH f1 hi);have cb:=bM (hk.fA H2.o NB.o) (gH f2 hc);obtain⟨gi,hgi⟩:∃g,gs[i]?=some g:=⟨_,gg_ (by rw [H.o.len];exact hi)⟩;have cf:=bP 1 hf.b rfl;have aO:=bT hf.own (eY hgi);have cr:=bM (hf.row i gi hgi) (gH _ hc);have fr:=bL (hf.row i gi hgi) k
     have SAME:Hid ((f1 i && f2 k)=false->Gf wr gg gr gf cap n gs (fun a c=>fo a c || ((decide (a<i) || (decide (a=i) && decide (c<k+1))) && (f1 a && f2 c)))):=fun e=>HF.o.congr (fun a c _ _=>by
      by_cases h1:a=i/\c=k
      .obtain⟨rfl,rfl⟩:=h1;rw [e];simp
      .have:(decide (a=i) && decide (c<k))=(decide (a=i) && decide (c<k+1)):=by
        by_cases h2:a=i
        .simp only [h2,decide_true,Bool.true_and,decide_eq_decide];have:c≠k:=fun h3=>h1 ⟨h2,h3⟩
         omega
        .simp [h2]
       simp only [this])
     have SET:Hid ((f1 i && f2 k)=true->Gf (wr.setCell (a_ gi k) (.bool true)) gg gr gf cap n gs (fun a c=>fo a c || ((decide (a<i) || (decide (a=i) && decide (c<k+1))) && (f1 a && f2 c)))/\Gk gs w (wr.setCell (a_ gi k) (.bool true))):=fun e=>by
      have:=HF.o.set hgi k true;refine⟨this.1.congr (fun a c _ _=>?_),HK.o.trans this.2⟩;unfold acL;by_cases h1:a=i/\c=k
      .rw [if_pos h1];obtain⟨rfl,rfl⟩:=h1;rw [e];simp
      .rw [if_neg h1]
       have:(decide (a=i) && decide (c<k))=(decide (a=i) && decide (c<k+1)):=by
        by_cases h2:a=i
        .simp only [h2,decide_true,Bool.true_and,decide_eq_decide];have:c≠k:=fun h3=>h1 ⟨h2,h3⟩
         omega
        .simp [h2]
       simp only [this]
     clear hk hf HF;generalize (fo i k || ((decide (i<i) || (decide (i=i) && decide (k<k))) && (f1 i && f2 k)))=old at *
     cases e1:f1 i with
     | false=>
      have S:=bK (SAME.o (by rw [e1];rfl));clear SAME SET;rw [e1] at ca;clear e1;go_wp2;go_roundg (n-(k+1))
      case measure=>omega
      case rel=>exact⟨k+1,by omega,rfl,by go_num,HK.o,S.o⟩
     | true=>
      cases e2:f2 k with
      | false=>
       have S:=bK (SAME.o (by rw [e1,e2];rfl));clear SAME SET;rw [e1] at ca;rw [e2] at cb;clear e1 e2;go_wp2;go_roundg (n-(k+1))
       case measure=>omega
       case rel=>exact⟨k+1,by omega,rfl,by go_num,HK.o,S.o⟩
      | true=>
       have S:=bK (SET.o (by rw [e1,e2];rfl));clear SAME SET;rw [e1] at ca;rw [e2] at cb;clear e1 e2;go_wp2;go_roundg (n-(k+1))
       case measure=>omega
       case rel=>exact⟨k+1,by omega,rfl,by go_num,S.o.2,S.o.1⟩
    .have d2:=mM k n
     have S:Hid (Gf wr gg gr gf cap n gs (fun a c=>fo a c || (decide (a<i+1) && (f1 a && f2 c)))):=hf.congr (fun a c _ hcn=>by
      have h1:decide (c<k)=true:=dt_ (by omega);have h2:(decide (a<i) || decide (a=i))=decide (a<i+1):=by rw [<-Bool.decide_or,decide_eq_decide];omega
      rw [h1,Bool.and_true,h2])
     clear hk hf HF;go_wp2;go_roundg (n-(i+1))
     case measure=>omega
     case rel=>exact⟨i+1,by omega,rfl,by go_num,HK.o,S.o⟩
  .have d1:=mM i n
   have S:Hid (Gf wr gg gr gf cap n gs (fun a c=>fo a c || (f1 a && f2 c))):=HF.o.congr (fun a c ha _=>by
    have h1:decide (a<i)=true:=dt_ (by omega)
    rw [h1,Bool.true_and])
   clear HF;go_wp2
   go_end0
   exact⟨rfl,HK.o,S.o⟩
end Go.Proofs.YtmccnmgaoppogaaGreat
