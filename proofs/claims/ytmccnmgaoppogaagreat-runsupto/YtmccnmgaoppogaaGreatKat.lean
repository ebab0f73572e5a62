import Derived.Test.YtmccnmgaoppogaaGreatKas
namespace Go.Proofs.YtmccnmgaoppogaaGreat
open Pu
set_option linter.all false
variable {ns:List aF} {L c i k n:Nat}
namespace Pu
structure Gn (w:List Nat) (PB PE:Nat->Nat->Prop) (j:Nat) (y:aF):Prop where
 c1:y.kind≠1->∀p,PB j p->PB y.l p
 c2:y.kind=2->∀p,PE y.l p->PB y.r p
 c3:y.kind=3->∀p,PB j p->PB y.r p
 c4:y.kind=4\/y.kind=5->∀p,PE y.l p->PB y.l p
 e1:y.kind=1->∀p c,PB j p->c<256->y.inn c=true->(∀z,w[p]?=some z->c=z)->PE j (ER w.length p)
 e2:y.kind=2\/y.kind=3->∀q,PE y.r q->PE j q
 e0:y.kind=4\/y.kind=6->∀q,PB j q->PE j q
 eL:y.kind≠1->y.kind≠2->∀q,PE y.l q->PE j q
section
variable {w:List Nat}
theorem Gn.iff {PB PE PB' PE':Nat->Nat->Prop} {j:Nat} {y:aF} (h:Gn w PB PE j y) (hj:∀p,(PB j p↔PB' j p)/\(PE j p↔PE' j p)) (hl:y.kind≠1->∀p,(PB y.l p↔PB' y.l p)/\(PE y.l p↔PE' y.l p)) (hr:y.kind=2\/y.kind=3->∀p,(PB y.r p↔PB' y.r p)/\(PE y.r p↔PE' y.r p)):Gn w PB' PE' j y:=
 ⟨fun k p hp=>(hl k p).1.1 (h.c1 k p ((hj p).1.2 hp)),fun k p hp=>(hr (.inl k) p).1.1 (h.c2 k p ((hl (by omega) p).2.2 hp)),fun k p hp=>(hr (.inr k) p).1.1 (h.c3 k p ((hj p).1.2 hp)),
  fun k p hp=>(hl (by omega) p).1.1 (h.c4 k p ((hl (by omega) p).2.2 hp)),fun k p c hp h1 h2 h3=>(hj _).2.1 (h.e1 k p c ((hj p).1.2 hp) h1 h2 h3),fun k q hq=>(hj q).2.1 (h.e2 k q ((hr k q).2.2 hq)),
  fun k q hq=>(hj q).2.1 (h.e0 k q ((hj q).1.2 hq)),fun k1 k2 q hq=>(hj q).2.1 (h.eL k1 k2 q ((hl k1 q).2.2 hq))⟩
theorem aaa:∀(x:aM) {m k:Nat} {y:aF} {B:Nat->Prop},(nodes x m)[k]?=some y->Gn w (kH w x m B) (kI w x m B) (m+k) y:=by
 intro x
 induction x with
 | pl T=>
  intro m k y B h
  cases k with
  | succ k=>simp [nodes] at h
  | zero=>simp [nodes] at h;subst h;refine⟨fun k=>absurd rfl k,fun k=>(by cases k),fun k=>(by cases k),fun k=>(by rcases k with k | k <;> cases k),fun _ p c hp h1 h2 h3=>⟨rfl,p,[c],hp.2,.pl h2,h1,h3,rfl⟩,fun k=>(by rcases k with k | k <;> cases k),fun k=>(by rcases k with k | k <;> cases k),fun k=>absurd rfl k⟩
 | cat a b iha ihb=>?_
 | alt a b iha ihb=>?_
 | star a ih=>?_
 | plus a ih=>?_
 | opt a ih=>?_
 all_goals
  intro m k y B h;have pa:=a.size_pos
 .have pb:=b.size_pos;have h:(nodes a m++nodes b (m+a.size)++[⟨2,m+a.size-1,m+a.size+b.size-1,dP⟩])[k]?=some y:=h
  have zB:∀j p,m<=j->j<m+a.size->(kH w a m B j p↔kH w (.cat a b) m B j p)/\(kI w a m B j p↔kI w (.cat a b) m B j p):=fun j p h1 h2=>
   ⟨(Tv (fun h=>by omega) (fun h=>by have:=qA b h;omega)).symm,(Tv (fun h=>by omega) (fun h=>by have:=pW b h;omega)).symm⟩
  have Y3:∀j p,m+a.size<=j->j<m+a.size+b.size->(kH w b (m+a.size) (nI w a B) j p↔kH w (.cat a b) m B j p)/\(kI w b (m+a.size) (nI w a B) j p↔kI w (.cat a b) m B j p):=fun j p h1 h2=>
   ⟨(Tw (fun h=>by omega) (fun h=>by have:=qA a h;omega)).symm,(Tw (fun h=>by omega) (fun h=>by have:=pW a h;omega)).symm⟩
  by_cases c1:k<a.size
  .rw [aa_,al_ (by rw [bR];exact c1)] at h;refine (iha h).iff (fun p=>zB _ p (by omega) (by omega)) (fun hk p=>?_) (fun hk p=>?_)
   .have:=(Kn a h hk).1;exact zB _ p this.1 (by omega)
   .have:=(Kn a h (by omega)).2 hk;exact zB _ p this.1 (by omega)
  .by_cases c2:k<a.size+b.size
   .rw [aa_,ar_ (by rw [bR];omega),bR,al_ (by rw [bR];omega)] at h;have:=ihb (B:=nI w a B) h;rw [show m+a.size+(k-a.size)=m+k by omega] at this;refine this.iff (fun p=>Y3 _ p (by omega) (by omega)) (fun hk p=>?_) (fun hk p=>?_)
    .have:=(Kn b h hk).1;exact Y3 _ p this.1 (by omega)
    .have:=(Kn b h (by omega)).2 hk;exact Y3 _ p this.1 (by omega)
   .have hl:=(ge_.1 h).1;simp only [la_,bR,lc_,ln_] at hl;have e:k=a.size+b.size:=by omega
    subst e;rw [ar_ (by simp [bR])] at h;simp [bR] at h;subst h;have tB:∀p,kH w (.cat a b) m B (m+(a.size+b.size)) p↔B p:=fun p=>by have:=jM (w:=w) (.cat a b) (m:=m) (B:=B) (p:=p);rwa [show m+(aM.cat a b).size-1=m+(a.size+b.size) by simp only [aM.size];omega] at this
    have tE:∀p,kI w (.cat a b) m B (m+(a.size+b.size)) p↔nI w (.cat a b) B p:=fun p=>by have:=jN (w:=w) (.cat a b) (m:=m) (B:=B) (q:=p);rwa [show m+(aM.cat a b).size-1=m+(a.size+b.size) by simp only [aM.size];omega] at this
    have aB:∀p,kH w (.cat a b) m B (m+a.size-1) p↔B p:=fun p=>(zB _ p (by omega) (by omega)).1.symm.trans (jM a)
    have aE:∀p,kI w (.cat a b) m B (m+a.size-1) p↔nI w a B p:=fun p=>(zB _ p (by omega) (by omega)).2.symm.trans (jN a)
    have bB:∀p,kH w (.cat a b) m B (m+a.size+b.size-1) p↔nI w a B p:=fun p=>(Y3 _ p (by omega) (by omega)).1.symm.trans (jM b)
    have bE:∀p,kI w (.cat a b) m B (m+a.size+b.size-1) p↔nI w b (nI w a B) p:=fun p=>(Y3 _ p (by omega) (by omega)).2.symm.trans (jN b)
    exact⟨fun _ p hp=>(aB p).2 ((tB p).1 hp),fun _ p hp=>(bB p).2 ((aE p).1 hp),fun k=>(by cases k),fun k=>(by rcases k with k | k <;> cases k),fun k=>(by cases k),fun _ q hq=>(tE q).2 (((bE q).1 hq).cat),fun k=>(by rcases k with k | k <;> cases k),fun _ k=>absurd rfl k⟩
 .have pb:=b.size_pos;have h:(nodes a m++nodes b (m+a.size)++[⟨3,m+a.size-1,m+a.size+b.size-1,dP⟩])[k]?=some y:=h
  have zB:∀j p,m<=j->j<m+a.size->(kH w a m B j p↔kH w (.alt a b) m B j p)/\(kI w a m B j p↔kI w (.alt a b) m B j p):=fun j p h1 h2=>
   ⟨(Tv (fun h=>by omega) (fun h=>by have:=qA b h;omega)).symm,(Tv (fun h=>by omega) (fun h=>by have:=pW b h;omega)).symm⟩
  have Y3:∀j p,m+a.size<=j->j<m+a.size+b.size->(kH w b (m+a.size) B j p↔kH w (.alt a b) m B j p)/\(kI w b (m+a.size) B j p↔kI w (.alt a b) m B j p):=fun j p h1 h2=>
   ⟨(Tw (fun h=>by omega) (fun h=>by have:=qA a h;omega)).symm,(Tw (fun h=>by omega) (fun h=>by have:=pW a h;omega)).symm⟩
  by_cases c1:k<a.size
  .rw [aa_,al_ (by rw [bR];exact c1)] at h;refine (iha h).iff (fun p=>zB _ p (by omega) (by omega)) (fun hk p=>?_) (fun hk p=>?_)
   .have:=(Kn a h hk).1;exact zB _ p this.1 (by omega)
   .have:=(Kn a h (by omega)).2 hk;exact zB _ p this.1 (by omega)
  .by_cases c2:k<a.size+b.size
   .rw [aa_,ar_ (by rw [bR];omega),bR,al_ (by rw [bR];omega)] at h;have:=ihb (B:=B) h;rw [show m+a.size+(k-a.size)=m+k by omega] at this;refine this.iff (fun p=>Y3 _ p (by omega) (by omega)) (fun hk p=>?_) (fun hk p=>?_)
    .have:=(Kn b h hk).1;exact Y3 _ p this.1 (by omega)
    .have:=(Kn b h (by omega)).2 hk;exact Y3 _ p this.1 (by omega)
   .have hl:=(ge_.1 h).1;simp only [la_,bR,lc_,ln_] at hl;have e:k=a.size+b.size:=by omega
    subst e;rw [ar_ (by simp [bR])] at h;simp [bR] at h;subst h;have tB:∀p,kH w (.alt a b) m B (m+(a.size+b.size)) p↔B p:=fun p=>by have:=jM (w:=w) (.alt a b) (m:=m) (B:=B) (p:=p);rwa [show m+(aM.alt a b).size-1=m+(a.size+b.size) by simp only [aM.size];omega] at this
    have tE:∀p,kI w (.alt a b) m B (m+(a.size+b.size)) p↔nI w (.alt a b) B p:=fun p=>by have:=jN (w:=w) (.alt a b) (m:=m) (B:=B) (q:=p);rwa [show m+(aM.alt a b).size-1=m+(a.size+b.size) by simp only [aM.size];omega] at this
    have aB:∀p,kH w (.alt a b) m B (m+a.size-1) p↔B p:=fun p=>(zB _ p (by omega) (by omega)).1.symm.trans (jM a)
    have aE:∀p,kI w (.alt a b) m B (m+a.size-1) p↔nI w a B p:=fun p=>(zB _ p (by omega) (by omega)).2.symm.trans (jN a)
    have bB:∀p,kH w (.alt a b) m B (m+a.size+b.size-1) p↔B p:=fun p=>(Y3 _ p (by omega) (by omega)).1.symm.trans (jM b)
    have bE:∀p,kI w (.alt a b) m B (m+a.size+b.size-1) p↔nI w b B p:=fun p=>(Y3 _ p (by omega) (by omega)).2.symm.trans (jN b)
    exact⟨fun _ p hp=>(aB p).2 ((tB p).1 hp),fun k=>(by cases k),fun _ p hp=>(bB p).2 ((tB p).1 hp),fun k=>(by rcases k with k | k <;> cases k),fun k=>(by cases k),fun _ q hq=>(tE q).2 (((bE q).1 hq).Gq),fun k=>(by rcases k with k | k <;> cases k),fun _ _ q hq=>(tE q).2 (((aE q).1 hq).Gp)⟩
 .have h:(nodes a m++[⟨4,m+a.size-1,0,dP⟩])[k]?=some y:=h
  have zB:∀j p,m<=j->j<m+a.size->(kH w a m (nI w (.star a) B) j p↔kH w (.star a) m B j p)/\(kI w a m (nI w (.star a) B) j p↔kI w (.star a) m B j p):=fun j p h1 h2=>⟨(Iz (fun h=>by omega)).symm,(Iz (fun h=>by omega)).symm⟩
  by_cases c1:k<a.size
  .rw [al_ (by rw [bR];exact c1)] at h;refine (ih h).iff (fun p=>zB _ p (by omega) (by omega)) (fun hk p=>?_) (fun hk p=>?_)
   .have:=(Kn a h hk).1;exact zB _ p this.1 (by omega)
   .have:=(Kn a h (by omega)).2 hk;exact zB _ p this.1 (by omega)
  .have hl:=(ge_.1 h).1;simp only [la_,bR,lc_,ln_] at hl;have e:k=a.size:=by omega
   subst e;rw [ar_ (by rw [bR];omega)] at h;simp [bR] at h;subst h;have tB:∀p,kH w (.star a) m B (m+a.size) p↔B p:=fun p=>jM (w:=w) (.star a) (m:=m) (B:=B) (p:=p)
   have tE:∀p,kI w (.star a) m B (m+a.size) p↔nI w (.star a) B p:=fun p=>jN (w:=w) (.star a) (m:=m) (B:=B) (q:=p)
   have aB:∀p,kH w (.star a) m B (m+a.size-1) p↔nI w (.star a) B p:=fun p=>(zB _ p (by omega) (by omega)).1.symm.trans (jM a)
   have aE:∀p,kI w (.star a) m B (m+a.size-1) p↔nI w a (nI w (.star a) B) p:=fun p=>(zB _ p (by omega) (by omega)).2.symm.trans (jN a)
   exact⟨fun _ p hp=>(aB p).2 (.sD ((tB p).1 hp)),fun k=>(by cases k),fun k=>(by cases k),fun _ p hp=>(aB p).2 (((aE p).1 hp).uJ),fun k=>(by cases k),fun k=>(by rcases k with k | k <;> cases k),fun _ q hq=>(tE q).2 (.sD ((tB q).1 hq)),fun _ _ q hq=>(tE q).2 (((aE q).1 hq).uJ)⟩
 .have h:(nodes a m++[⟨5,m+a.size-1,0,dP⟩])[k]?=some y:=h
  have zB:∀j p,m<=j->j<m+a.size->(kH w a m (nI w (.star a) B) j p↔kH w (.plus a) m B j p)/\(kI w a m (nI w (.star a) B) j p↔kI w (.plus a) m B j p):=fun j p h1 h2=>⟨(Iz (fun h=>by omega)).symm,(Iz (fun h=>by omega)).symm⟩
  by_cases c1:k<a.size
  .rw [al_ (by rw [bR];exact c1)] at h;refine (ih h).iff (fun p=>zB _ p (by omega) (by omega)) (fun hk p=>?_) (fun hk p=>?_)
   .have:=(Kn a h hk).1;exact zB _ p this.1 (by omega)
   .have:=(Kn a h (by omega)).2 hk;exact zB _ p this.1 (by omega)
  .have hl:=(ge_.1 h).1;simp only [la_,bR,lc_,ln_] at hl;have e:k=a.size:=by omega
   subst e;rw [ar_ (by rw [bR];omega)] at h;simp [bR] at h;subst h;have tB:∀p,kH w (.plus a) m B (m+a.size) p↔B p:=fun p=>jM (w:=w) (.plus a) (m:=m) (B:=B) (p:=p)
   have tE:∀p,kI w (.plus a) m B (m+a.size) p↔nI w (.plus a) B p:=fun p=>jN (w:=w) (.plus a) (m:=m) (B:=B) (q:=p)
   have aB:∀p,kH w (.plus a) m B (m+a.size-1) p↔nI w (.star a) B p:=fun p=>(zB _ p (by omega) (by omega)).1.symm.trans (jM a)
   have aE:∀p,kI w (.plus a) m B (m+a.size-1) p↔nI w a (nI w (.star a) B) p:=fun p=>(zB _ p (by omega) (by omega)).2.symm.trans (jN a)
   exact⟨fun _ p hp=>(aB p).2 (.sD ((tB p).1 hp)),fun k=>(by cases k),fun k=>(by cases k),fun _ p hp=>(aB p).2 (((aE p).1 hp).uJ),fun k=>(by cases k),fun k=>(by rcases k with k | k <;> cases k),fun k=>(by rcases k with k | k <;> cases k),fun _ _ q hq=>(tE q).2 (((aE q).1 hq).plus)⟩
 .have h:(nodes a m++[⟨6,m+a.size-1,0,dP⟩])[k]?=some y:=h
  have zB:∀j p,m<=j->j<m+a.size->(kH w a m B j p↔kH w (.opt a) m B j p)/\(kI w a m B j p↔kI w (.opt a) m B j p):=fun j p h1 h2=>⟨(Iz (fun h=>by omega)).symm,(Iz (fun h=>by omega)).symm⟩
  by_cases c1:k<a.size
  .rw [al_ (by rw [bR];exact c1)] at h;refine (ih h).iff (fun p=>zB _ p (by omega) (by omega)) (fun hk p=>?_) (fun hk p=>?_)
   .have:=(Kn a h hk).1;exact zB _ p this.1 (by omega)
   .have:=(Kn a h (by omega)).2 hk;exact zB _ p this.1 (by omega)
  .have hl:=(ge_.1 h).1;simp only [la_,bR,lc_,ln_] at hl;have e:k=a.size:=by omega
   subst e;rw [ar_ (by rw [bR];omega)] at h;simp [bR] at h;subst h;have tB:∀p,kH w (.opt a) m B (m+a.size) p↔B p:=fun p=>jM (w:=w) (.opt a) (m:=m) (B:=B) (p:=p)
   have tE:∀p,kI w (.opt a) m B (m+a.size) p↔nI w (.opt a) B p:=fun p=>jN (w:=w) (.opt a) (m:=m) (B:=B) (q:=p)
   have aB:∀p,kH w (.opt a) m B (m+a.size-1) p↔B p:=fun p=>(zB _ p (by omega) (by omega)).1.symm.trans (jM a)
   have aE:∀p,kI w (.opt a) m B (m+a.size-1) p↔nI w a B p:=fun p=>(zB _ p (by omega) (by omega)).2.symm.trans (jN a)
   exact⟨fun _ p hp=>(aB p).2 ((tB p).1 hp),fun k=>(by cases k),fun k=>(by cases k),fun k=>(by rcases k with k | k <;> cases k),fun k=>(by cases k),fun k=>(by rcases k with k | k <;> cases k),fun _ q hq=>(tE q).2 (.JD ((tB q).1 hq)),fun _ _ q hq=>(tE q).2 (((aE q).1 hq).JE)⟩
theorem xU.line {ls:List aC} (h:xU ls ns) {j:Nat} {y:aF} (hj:ns[j]?=some y):∃k x,ls[k]?=some x/\dK (ls.take k)<=j/\j<dK (ls.take k)+x.re.size/\(nodes x.re (dK (ls.take k)))[j-dK (ls.take k)]?=some y:=by
 have hjl:=mY hj;rw [h.len] at hjl
 have key:∀n,n<=ls.length->j<dK (ls.take n)->∃k x,ls[k]?=some x/\dK (ls.take k)<=j/\j<dK (ls.take k)+x.re.size:=by
  intro n
  induction n with
  | zero=>intro _ h0;simp [dK] at h0
  | succ n ih=>
   intro hn h0;obtain⟨x,hx⟩:=qG ls n;rw [iR hx] at h0;by_cases c:j<dK (ls.take n)
   .exact ih (by omega) c
   .exact⟨n,x,hx,by omega,h0⟩
 obtain⟨k,x,h1,h2,h3⟩:=key ls.length di (by rw [List.take_length];exact hjl);refine⟨k,x,h1,h2,h3,?_⟩;have hl:j-dK (ls.take k)<(nodes x.re (dK (ls.take k))).length:=by rw [bR];omega
 have:=h.at' k x h1 _ _ (gg_ hl);rw [show dK (ls.take k)+(j-dK (ls.take k))=j by omega,hj] at this;rw [gg_ hl];exact this.symm
theorem EK (ls:List aC) (h:i<=k):dK (ls.take i)<=dK (ls.take k):=by
 induction k with
 | zero=>
  have:i=0:=by omega
  subst this;exact di
 | succ k ih=>
  by_cases c:i=k+1
  .subst c;exact di
  .refine lt_ (ih (by omega)) ?_
   by_cases hk:k<ls.length
   .rw [iR (gg_ hk)];omega
   .rw [List.take_of_length_le (by omega),List.take_of_length_le (by omega)];exact di
theorem aeZ {ls:List aC} {ns:List aF} (hn:xU ls ns) {k:Nat} {x:aC} (hk:ls[k]?=some x) (B:Nat->Prop) {j:Nat} {y:aF} (hj:ns[j]?=some y):Gn w (kH w x.re (dK (ls.take k)) B) (kI w x.re (dK (ls.take k)) B) j y:=by
 obtain⟨k',x',h1,h2,h3,h4⟩:=hn.line hj;by_cases e:k'=k
 .subst e;rw [hk] at h1;cases h1;have:=aaa (w:=w) (B:=B) x.re h4;rwa [show dK (ls.take k')+(j-dK (ls.take k'))=j by omega] at this
 .have apart:∀c,dK (ls.take k')<=c->c<dK (ls.take k')+x'.re.size->¬(dK (ls.take k)<=c/\c<dK (ls.take k)+x.re.size):=fun c c1 c2 c3=>by
   rcases Nat.lt_or_gt_of_ne e with h | h
   .have:=EK ls (i:=k'+1) (k:=k) h;rw [iR h1] at this;omega
   .have:=EK ls (i:=k+1) (k:=k') h;rw [iR hk] at this;omega
  have jB:∀p,¬kH w x.re (dK (ls.take k)) B j p:=fun p h=>apart j h2 h3 (qA _ h)
  have lE:y.kind≠1->∀p,¬kI w x.re (dK (ls.take k)) B y.l p:=fun hk p h=>by have:=(Kn x'.re h4 hk).1;exact apart y.l this.1 (by omega) (pW _ h)
  have rE:y.kind=2\/y.kind=3->∀p,¬kI w x.re (dK (ls.take k)) B y.r p:=fun hk p h=>by have:=(Kn x'.re h4 (by omega)).2 hk;exact apart y.r this.1 (by omega) (pW _ h)
  exact⟨fun _ p hp=>absurd hp (jB p),fun k p hp=>absurd hp (lE (by omega) p),fun _ p hp=>absurd hp (jB p),fun k p hp=>absurd hp (lE (by omega) p),fun _ p _ hp=>absurd hp (jB p),fun k q hq=>absurd hq (rE k q),fun _ q hq=>absurd hq (jB q),fun k _ q hq=>absurd hq (lE k q)⟩
theorem aby {PB PE:Nat->Nat->Prop} (hc:∀j y,ns[j]?=some y->Gn w PB PE j y):∀(x:aM) {m p q:Nat} {u:List Nat},ag ns x m->PB (m+x.size-1) p->M x u->Ac w p u q->PE (m+x.size-1) q:=by
 have star:∀(a:aM) {top l q:Nat},(∀p q u,PB l p->M a u->Ac w p u q->PE l q)->(∀p,PE l p->PB l p)->(∀p,PE l p->PE top p)->∀{u:List Nat},M (.star a) u->∀p,PB l p->PE top p->Ac w p u q->PE top q:=by
  intro a top l q h1 h2 h3 u hu;generalize e:aM.star a=x at hu
  induction hu with
  | sD=>intro p _ hp h;have e2:q=p:=h;rw [e2];exact hp
  | uJ m1 m2 _ ih=>
   cases e
   intro p hb _ h;obtain⟨r,r1,r2⟩:=h.parts;have:=h1 p r _ hb m1 r1;exact ih rfl r (h2 r this) (h3 r this) r2
  | pl _=>cases e
  | cat _ _=>cases e
  | Gp _=>cases e
  | Gq _=>cases e
  | plus _ _=>cases e
  | JD=>cases e
  | JE _=>cases e
 intro x
 induction x with
 | pl T=>
  intro m p q u hA hB hM hV
  cases hM with
  | pl hT=>have h0:ns[m]?=some ⟨1,0,0,T⟩:=hA 0 _ rfl;have:=(hc m _ h0).e1 rfl p _ hB hV.1 hT hV.2.1;have e:q=ER w.length p:=hV.2.2;rw [e];exact this
 | cat a b iha ihb=>
  intro m p q u hA hB hM hV;obtain⟨hl,hr,ht⟩:=ag.two (x:=⟨2,m+a.size-1,m+a.size+b.size-1,dP⟩) hA;have pa:=a.size_pos;have pb:=b.size_pos;have eT:m+(aM.cat a b).size-1=m+a.size+b.size:=by simp only [aM.size];omega
  rw [eT] at hB |-
  cases hM with
  | cat h1 h2=>obtain⟨r,r1,r2⟩:=hV.parts;have cl:=hc _ _ ht;have k1:=iha hl (cl.c1 (fun h=>by cases h) p hB) h1 r1;exact cl.e2 (.inl rfl) q (ihb hr (cl.c2 rfl r k1) h2 r2)
 | alt a b iha ihb=>
  intro m p q u hA hB hM hV;obtain⟨hl,hr,ht⟩:=ag.two (x:=⟨3,m+a.size-1,m+a.size+b.size-1,dP⟩) hA;have pa:=a.size_pos;have pb:=b.size_pos;have eT:m+(aM.alt a b).size-1=m+a.size+b.size:=by simp only [aM.size];omega
  rw [eT] at hB |-;have cl:=hc _ _ ht
  cases hM with
  | Gp h1=>exact cl.eL (fun h=>by cases h) (fun h=>by cases h) q (iha hl (cl.c1 (fun h=>by cases h) p hB) h1 hV)
  | Gq h1=>exact cl.e2 (.inr rfl) q (ihb hr (cl.c3 rfl p hB) h1 hV)
 | star a ih=>
  intro m p q u hA hB hM hV;obtain⟨hl,ht⟩:=ag.one (x:=⟨4,m+a.size-1,0,dP⟩) hA;have eT:m+(aM.star a).size-1=m+a.size:=by simp only [aM.size];omega
  rw [eT] at hB |-;have cl:=hc _ _ ht;exact star a (fun p q u h1 h2 h3=>ih hl h1 h2 h3) (cl.c4 (.inl rfl)) (cl.eL (fun h=>by cases h) (fun h=>by cases h)) hM p (cl.c1 (fun h=>by cases h) p hB) (cl.e0 (.inl rfl) p hB) hV
 | plus a ih=>
  intro m p q u hA hB hM hV;obtain⟨hl,ht⟩:=ag.one (x:=⟨5,m+a.size-1,0,dP⟩) hA;have eT:m+(aM.plus a).size-1=m+a.size:=by simp only [aM.size];omega
  rw [eT] at hB |-;have cl:=hc _ _ ht
  cases hM with
  | plus h1 h2=>obtain⟨r,r1,r2⟩:=hV.parts;have k1:=ih hl (cl.c1 (fun h=>by cases h) p hB) h1 r1;exact star a (fun p q u h1 h2 h3=>ih hl h1 h2 h3) (cl.c4 (.inr rfl)) (cl.eL (fun h=>by cases h) (fun h=>by cases h)) h2 r (cl.c4 (.inr rfl) r k1) (cl.eL (fun h=>by cases h) (fun h=>by cases h) r k1) r2
 | opt a ih=>
  intro m p q u hA hB hM hV;obtain⟨hl,ht⟩:=ag.one (x:=⟨6,m+a.size-1,0,dP⟩) hA;have eT:m+(aM.opt a).size-1=m+a.size:=by simp only [aM.size];omega
  rw [eT] at hB |-;have cl:=hc _ _ ht
  cases hM with
  | JD=>have e:q=p:=hV;rw [e];exact cl.e0 (.inr rfl) p hB
  | JE h1=>exact cl.eL (fun h=>by cases h) (fun h=>by cases h) q (ih hl (cl.c1 (fun h=>by cases h) p hB) h1 hV)
end
end Pu
namespace Pu
theorem Yk {p q:Nat->Bool}:∀l:List Nat,(∀x∈l,q x=true->p x=true)->l.countP q<=l.countP p:=by
 intro l
 induction l with
 | nil=>intro _;exact di
 | cons x l ih=>
  intro h;have:=ih (fun y hy=>h y (mc_ _ hy));have hx:=h x (ms_ ..);rw [List.countP_cons,List.countP_cons]
  cases hq:q x with
  | false=>simp;omega
  | true=>rw [hx hq];simp;omega
theorem aee {p q:Nat->Bool}:∀l:List Nat,(∀x∈l,q x=true->p x=true)->(∃x∈l,p x=true/\q x=false)->l.countP q<l.countP p:=by
 intro l
 induction l with
 | nil=>intro _ ⟨x,hx,_⟩;simp at hx
 | cons x l ih=>
  intro h ⟨y,hy,h1,h2⟩;have hr:=fun y hy=>h y (mc_ _ hy)
  have hx:=h x (ms_ ..);rw [List.countP_cons,List.countP_cons];rcases mm_.1 hy with rfl | hy
  .have:=Yk l hr;rw [h1,h2];simp;omega
  .have:=ih hr ⟨y,hy,h1,h2⟩
   cases hq:q x with
   | false=>simp;omega
   | true=>rw [hx hq];simp;omega
theorem LH (hk:k<n):(i*n+k) / n=i:=by rw [Nat.add_comm,Nat.add_mul_div_right _ _ (by omega),Nat.div_eq_of_lt hk,Nat.zero_add]
theorem LJ (hk:k<n):(i*n+k) % n=k:=by rw [Nat.add_comm,Nat.add_mul_mod_self_right,Nat.mod_eq_of_lt hk]
def iw (a b:Nat->Bool):Nat->Bool:=fun i=>a i || b i
def dQ (L:Nat) (a b:Nat->Bool):Bool:=(List.range L).any (fun i=>b i && !a i)
def dO (f:Nat->Nat->Bool) (c:Nat) (row:Nat->Bool):Nat->Nat->Bool:=fun j=>if j=c then row else f j
theorem gZ {a b:Nat->Bool} (h:dQ L a b=false) (hi:i<L):b i=true->a i=true:=by intro hb;unfold dQ at h;rw [List.any_eq_false] at h;have:=h i (List.mem_range.2 hi);rw [hb] at this;simpa using this
theorem Mc {a b:Nat->Bool} (h:dQ L a b=true):∃i,i<L/\b i=true/\a i=false:=by unfold dQ at h;rw [List.any_eq_true] at h;obtain⟨i,h1,h2⟩:=h;refine⟨i,List.mem_range.1 h1,?_⟩;simpa using h2
theorem uL {f:Nat->Nat->Bool} {row:Nat->Bool}:dO f c row c=row:=by unfold dO;rw [if_pos rfl]
theorem zZ {f:Nat->Nat->Bool} {j:Nat} {row:Nat->Bool} (h:j≠c):dO f c row j=f j:=by unfold dO;rw [if_neg h]
def LF (n L:Nat) (f:Nat->Nat->Bool):Nat:=(List.range (n*L)).countP (fun x=>!f (x / L) (x % L))
theorem acJ (hi:i<n) (hk:k<L):i*L+k<n*L:=by have:(i+1)*L<=n*L:=Nat.mul_le_mul_right L hi;rw [Nat.succ_mul] at this;omega
theorem Yu {f:Nat->Nat->Bool} {s:Nat->Bool} (hc:c<n):LF n L (dO f c (iw (f c) s))+(if dQ L (f c) s=true then 1 else 0)<=LF n L f:=by
 have mono:∀x∈List.range (n*L),(!dO f c (iw (f c) s) (x / L) (x % L))=true->(!f (x / L) (x % L))=true:=fun x _ hx=>by
  unfold dO iw at hx;split at hx
  .next e=>rw [e];simp at hx |-;exact hx.1
  .exact hx
 unfold LF;by_cases g:dQ L (f c) s=true
 .rw [if_pos g];obtain⟨i,hi,h1,h2⟩:=Mc g;refine aee _ mono ⟨c*L+i,List.mem_range.2 (acJ hc hi),?_,?_⟩
  .rw [LH hi,LJ hi,h2];rfl
  .rw [LH hi,LJ hi,uL];unfold iw;rw [h1];simp
 .rw [if_neg g];exact Yk _ mono
section
variable {PB PE:Nat->Nat->Prop} {L n:Nat} {wK en0 bg en:Nat->Nat->Bool} {more:Bool}
structure Dw (PB PE:Nat->Nat->Prop) (L n:Nat) (wK en0 bg en:Nat->Nat->Bool) (more:Bool):Prop where
 sb:∀j p,j<n->p<L->bg j p=true->PB j p
 se:∀j p,j<n->p<L->en j p=true->PE j p
 mb:∀j p,wK j p=true->bg j p=true
 cnt:LF n L bg+LF n L en+(if more=true then 1 else 0)<=LF n L wK+LF n L en0
 same:more=false->∀j p,j<n->p<L->bg j p=wK j p/\en j p=en0 j p
theorem Dw.wS (h:Dw PB PE L n wK en0 bg en more) {s:Nat->Bool} (hc:c<n) (hs:∀p,p<L->s p=true->PB c p):Dw PB PE L n wK en0 (dO bg c (iw (bg c) s)) en (more || dQ L (bg c) s):=by
 refine⟨fun j p hj hp hb=>?_,h.se,fun j p hb=>?_,?_,fun e j p hj hp=>?_⟩
 .unfold dO at hb;split at hb
  .next e=>subst e;unfold iw at hb;rw [Bool.or_eq_true] at hb;exact hb.elim (h.sb j p hj hp) (hs p hp)
  .exact h.sb j p hj hp hb
 .have:=h.mb j p hb;unfold dO;split
  .next e=>subst e;unfold iw;rw [this];rfl
  .exact this
 .have h1:=h.cnt;have h2:=Yu (L:=L) (f:=bg) (s:=s) hc;generalize dQ L (bg c) s=g at h2 |-;cases more <;> cases g <;> simp at h1 h2 |- <;> omega
 .rw [Bool.or_eq_false_iff] at e;have h1:=h.same e.1 j p hj hp;refine⟨?_,h1.2⟩;rw [<-h1.1];unfold dO;split
  .next ej=>
   subst ej;unfold iw;have:=gZ e.2 hp
   cases hb:s p with
   | false=>rw [Bool.or_false]
   | true=>rw [this hb];rfl
  .rfl
theorem Dw.sU (h:Dw PB PE L n wK en0 bg en more) {s:Nat->Bool} (hc:c<n) (hs:∀p,p<L->s p=true->PE c p):Dw PB PE L n wK en0 bg (dO en c (iw (en c) s)) (more || dQ L (en c) s):=by
 refine⟨h.sb,fun j p hj hp hb=>?_,h.mb,?_,fun e j p hj hp=>?_⟩
 .unfold dO at hb;split at hb
  .next e=>subst e;unfold iw at hb;rw [Bool.or_eq_true] at hb;exact hb.elim (h.se j p hj hp) (hs p hp)
  .exact h.se j p hj hp hb
 .have h1:=h.cnt;have h2:=Yu (L:=L) (f:=en) (s:=s) hc;generalize dQ L (en c) s=g at h2 |-;cases more <;> cases g <;> simp at h1 h2 |- <;> omega
 .rw [Bool.or_eq_false_iff] at e;have h1:=h.same e.1 j p hj hp;refine⟨h1.1,?_⟩;rw [<-h1.2];unfold dO;split
  .next ej=>
   subst ej;unfold iw;have:=gZ e.2 hp
   cases hb:s p with
   | false=>rw [Bool.or_false]
   | true=>rw [this hb];rfl
  .rfl
theorem Dw.start (h:Dw PB PE L n wK en0 bg en more):Dw PB PE L n bg en bg en false:=⟨h.sb,h.se,fun _ _ h=>h,by simp,fun _ _ _ _ _=>⟨rfl,rfl⟩⟩
end
def zY (y:aF) (w:List Nat) (p:Nat->Bool):Nat->Bool:=fun q=>
 if q=w.length+1 then (List.range 256).any y.inn && (p w.length || p (w.length+1)) else if q=0 then false else p (q-1) && y.inn (w.getD (q-1) 0)
def Ck (y:aF) (i:Nat) (bg en:Nat->Nat->Bool):Nat->Nat->Bool:=
 if y.kind=1 then bg else
 let b1:=dO bg y.l (iw (bg y.l) (bg i))
 if y.kind=2 then dO b1 y.r (iw (b1 y.r) (en y.l)) else if y.kind=3 then dO b1 y.r (iw (b1 y.r) (b1 i)) else if y.kind=6 then b1 else dO b1 y.l (iw (b1 y.l) (en y.l))
def Aq (L:Nat) (y:aF) (i:Nat) (bg en:Nat->Nat->Bool):Bool:=
 if y.kind=1 then false else
 let b1:=dO bg y.l (iw (bg y.l) (bg i))
 let a:=dQ L (bg y.l) (bg i)
 if y.kind=2 then a || dQ L (b1 y.r) (en y.l) else if y.kind=3 then a || dQ L (b1 y.r) (b1 i) else if y.kind=6 then a else a || dQ L (b1 y.l) (en y.l)
def FT (w:List Nat) (y:aF) (i:Nat) (bg en:Nat->Nat->Bool):Nat->Nat->Bool:=
 if y.kind=1 then dO en i (iw (en i) (zY y w (bg i))) else if y.kind=2 then dO en i (iw (en i) (en y.r)) else
 let e1:=if y.kind=3 then dO en i (iw (en i) (en y.r)) else if y.kind=5 then en else dO en i (iw (en i) (bg i))
 dO e1 i (iw (e1 i) (e1 y.l))
def Ce (L:Nat) (w:List Nat) (y:aF) (i:Nat) (bg en:Nat->Nat->Bool):Bool:=
 if y.kind=1 then dQ L (en i) (zY y w (bg i)) else if y.kind=2 then dQ L (en i) (en y.r) else
 let e1:=if y.kind=3 then dO en i (iw (en i) (en y.r)) else if y.kind=5 then en else dO en i (iw (en i) (bg i))
 (if y.kind=3 then dQ L (en i) (en y.r) else if y.kind=5 then false else dQ L (en i) (bg i)) || dQ L (e1 i) (e1 y.l)
structure Rv (L:Nat) (y:aF) (i:Nat) (bg en:Nat->Nat->Bool):Prop where
 c1:y.kind≠1->∀p,p<L->bg i p=true->bg y.l p=true
 c2:y.kind=2->∀p,p<L->en y.l p=true->bg y.r p=true
 c3:y.kind=3->∀p,p<L->bg i p=true->bg y.r p=true
 c4:y.kind=4\/y.kind=5->∀p,p<L->en y.l p=true->bg y.l p=true
structure WY (L:Nat) (w:List Nat) (y:aF) (i:Nat) (bg en:Nat->Nat->Bool):Prop where
 e1:y.kind=1->∀q,q<L->zY y w (bg i) q=true->en i q=true
 e2:y.kind=2\/y.kind=3->∀q,q<L->en y.r q=true->en i q=true
 e0:y.kind=4\/y.kind=6->∀q,q<L->bg i q=true->en i q=true
 eL:y.kind≠1->y.kind≠2->∀q,q<L->en y.l q=true->en i q=true
structure NdK (n i:Nat) (y:aF):Prop where
 lt:i<n
 kd:y.kind=1\/y.kind=2\/y.kind=3\/y.kind=4\/y.kind=5\/y.kind=6
 kl:y.kind≠1->y.l<i
 kr:y.kind=2\/y.kind=3->y.r<i/\y.l<y.r
end Pu
namespace Pu
section
variable {PB PE:Nat->Nat->Prop} {L n i:Nat} {wK en0 bg en:Nat->Nat->Bool} {more:Bool} {w:List Nat} {y:aF}
theorem Dw.down (h:Dw PB PE L n wK en0 bg en more) (cl:Gn w PB PE i y) (hk:NdK n i y):Dw PB PE L n wK en0 (Ck y i bg en) en (more || Aq L y i bg en)/\((more || Aq L y i bg en)=false->Rv L y i wK en0):=by
 have hi:=hk.lt;by_cases k1:y.kind=1
 .have e1:Ck y i bg en=bg:=by unfold Ck;rw [if_pos k1]
  have e2:Aq L y i bg en=false:=by unfold Aq;rw [if_pos k1]
  rw [e1,e2,Bool.or_false];exact⟨h,fun _=>⟨fun k=>absurd k1 k,fun k=>by omega,fun k=>by omega,fun k=>by omega⟩⟩
 .have hl:=hk.kl k1;have g1:=h.wS (c:=y.l) (s:=bg i) (by omega) (fun p hp hb=>cl.c1 k1 p (h.sb i p hi hp hb))
  have c1:(more || dQ L (bg y.l) (bg i))=false->y.kind≠1->∀p,p<L->wK i p=true->wK y.l p=true:=fun e _ p hp hb=>by
   rw [Bool.or_eq_false_iff] at e;rw [<-(h.same e.1 y.l p (by omega) hp).1];refine gZ e.2 hp ?_
   rw [(h.same e.1 i p hi hp).1];exact hb
  rcases hk.kd with k | k | k | k | k | k
  .exact absurd k k1
  .have hr:=hk.kr (.inl k);have e1:Ck y i bg en=dO (dO bg y.l (iw (bg y.l) (bg i))) y.r (iw (dO bg y.l (iw (bg y.l) (bg i)) y.r) (en y.l)):=by unfold Ck;rw [if_neg k1,if_pos k]
   have e2:Aq L y i bg en=(dQ L (bg y.l) (bg i) || dQ L (dO bg y.l (iw (bg y.l) (bg i)) y.r) (en y.l)):=by unfold Aq;rw [if_neg k1,if_pos k]
   rw [e1,e2,<-Bool.or_assoc];refine⟨g1.wS (by omega) (fun p hp he=>cl.c2 k p (h.se y.l p (by omega) hp he)),fun e=>?_⟩;rw [Bool.or_eq_false_iff,Bool.or_eq_false_iff] at e;have sm:=h.same e.1.1;refine⟨c1 (by rw [e.1.1,e.1.2];rfl),fun _ p hp he=>?_,fun k'=>by omega,fun k'=>by omega⟩;rw [<-(sm y.r p (by omega) hp).1];have:=gZ e.2 hp (by rw [(sm y.l p (by omega) hp).2];exact he);rwa [zZ (by omega)] at this
  .have hr:=hk.kr (.inr k);have e1:Ck y i bg en=dO (dO bg y.l (iw (bg y.l) (bg i))) y.r (iw (dO bg y.l (iw (bg y.l) (bg i)) y.r) (dO bg y.l (iw (bg y.l) (bg i)) i)):=by unfold Ck;rw [if_neg k1,if_neg (by omega),if_pos k]
   have e2:Aq L y i bg en=(dQ L (bg y.l) (bg i) || dQ L (dO bg y.l (iw (bg y.l) (bg i)) y.r) (dO bg y.l (iw (bg y.l) (bg i)) i)):=by unfold Aq;rw [if_neg k1,if_neg (by omega),if_pos k]
   rw [e1,e2,<-Bool.or_assoc];refine⟨g1.wS (by omega) (fun p hp he=>cl.c3 k p (g1.sb i p hi hp he)),fun e=>?_⟩;rw [Bool.or_eq_false_iff,Bool.or_eq_false_iff] at e;have sm:=h.same e.1.1;refine⟨c1 (by rw [e.1.1,e.1.2];rfl),fun k'=>by omega,fun _ p hp he=>?_,fun k'=>by omega⟩;rw [<-(sm y.r p (by omega) hp).1];have:=gZ e.2 hp (by rw [zZ (by omega),(sm i p hi hp).1];exact he);rwa [zZ (by omega)] at this
  rotate_left
  rotate_left
  .have e1:Ck y i bg en=dO bg y.l (iw (bg y.l) (bg i)):=by unfold Ck;rw [if_neg k1,if_neg (by omega),if_neg (by omega),if_pos k]
   have e2:Aq L y i bg en=dQ L (bg y.l) (bg i):=by unfold Aq;rw [if_neg k1,if_neg (by omega),if_neg (by omega),if_pos k]
   rw [e1,e2];exact⟨g1,fun e=>⟨c1 e,fun k'=>by omega,fun k'=>by omega,fun k'=>by omega⟩⟩
  all_goals
   have e1:Ck y i bg en=dO (dO bg y.l (iw (bg y.l) (bg i))) y.l (iw (dO bg y.l (iw (bg y.l) (bg i)) y.l) (en y.l)):=by unfold Ck;rw [if_neg k1,if_neg (by omega),if_neg (by omega),if_neg (by omega)]
   have e2:Aq L y i bg en=(dQ L (bg y.l) (bg i) || dQ L (dO bg y.l (iw (bg y.l) (bg i)) y.l) (en y.l)):=by unfold Aq;rw [if_neg k1,if_neg (by omega),if_neg (by omega),if_neg (by omega)]
   rw [e1,e2,<-Bool.or_assoc]
  focus refine⟨g1.wS (by omega) (fun p hp he=>cl.c4 (.inl k) p (h.se y.l p (by omega) hp he)),fun e=>?_⟩
  rotate_left
  focus refine⟨g1.wS (by omega) (fun p hp he=>cl.c4 (.inr k) p (h.se y.l p (by omega) hp he)),fun e=>?_⟩
  all_goals
   rw [Bool.or_eq_false_iff,Bool.or_eq_false_iff] at e;have sm:=h.same e.1.1;refine⟨c1 (by rw [e.1.1,e.1.2];rfl),fun k'=>by omega,fun k'=>by omega,fun _ p hp he=>?_⟩;rw [<-(sm y.l p (by omega) hp).1];have:=gZ e.2 hp (by rw [(sm y.l p (by omega) hp).2];exact he);rw [uL] at this;unfold iw at this;rw [Bool.or_eq_true] at this;exact this.elim id (gZ e.1.2 hp)
theorem uK {y:aF} {p:Nat->Bool} (hw:∀c∈w,c<256) {q:Nat} (hq:q<w.length+2):zY y w p q=true↔∃p0 c,p0<w.length+2/\p p0=true/\c<256/\y.inn c=true/\(∀z,w[p0]?=some z->c=z)/\q=ER w.length p0:=by
 unfold zY;by_cases c1:q=w.length+1
 .rw [if_pos c1,Bool.and_eq_true,List.any_eq_true,Bool.or_eq_true];constructor
  .rintro ⟨⟨c,hc,hi⟩,hp⟩;have hc:=List.mem_range.1 hc;rcases hp with hp | hp
   all_goals
    exact⟨_,c,by omega,hp,hc,hi,fun z hz=>by have:=mY hz;omega,by unfold ER;rw [if_neg (by omega)];exact c1⟩
  .rintro ⟨p0,c,h0,hp,hc,hi,_,hn⟩;refine⟨⟨c,List.mem_range.2 hc,hi⟩,?_⟩;unfold ER at hn;by_cases c2:p0<w.length
   .rw [if_pos c2] at hn;omega
   .by_cases c3:p0=w.length
    .rw [<-c3];exact .inl hp
    .have e:p0=w.length+1:=by omega
     rw [<-e];exact .inr hp
 .rw [if_neg c1];by_cases c2:q=0
  .rw [if_pos c2];constructor
   .intro h;cases h
   .rintro ⟨p0,c,_,_,_,_,_,hn⟩;unfold ER at hn;split at hn <;> omega
  .rw [if_neg c2,Bool.and_eq_true];have hl:q-1<w.length:=by omega
   have eg:w.getD (q-1) 0=w[q-1]:=by rw [gd_,gg_ hl];rfl
   rw [eg];constructor
   .rintro ⟨hp,hi⟩;refine⟨q-1,_,by omega,hp,hw _ (List.getElem_mem hl),hi,fun z hz=>?_,by unfold ER;rw [if_pos hl];omega⟩;rw [gg_ hl] at hz;exact oi_ hz
   .rintro ⟨p0,c,_,hp,_,hi,hz,hn⟩;have e:p0=q-1:=by unfold ER at hn;split at hn <;> omega
    subst e;refine⟨hp,?_⟩;rw [<-hz _ (gg_ hl)];exact hi
theorem Dw.up (h:Dw PB PE L n wK en0 bg en more) (cl:Gn w PB PE i y) (hk:NdK n i y) (hL:L=w.length+2) (hw:∀c∈w,c<256):Dw PB PE L n wK en0 bg (FT w y i bg en) (more || Ce L w y i bg en)/\((more || Ce L w y i bg en)=false->WY L w y i wK en0):=by
 have hi:=hk.lt;by_cases k1:y.kind=1
 .have e1:FT w y i bg en=dO en i (iw (en i) (zY y w (bg i))):=by unfold FT;rw [if_pos k1]
  have e2:Ce L w y i bg en=dQ L (en i) (zY y w (bg i)):=by unfold Ce;rw [if_pos k1]
  rw [e1,e2];refine⟨h.sU hi (fun q hq ht=>?_),fun e=>⟨fun _ q hq ht=>?_,fun k=>by omega,fun k=>by omega,fun k=>absurd k1 k⟩⟩
  .rw [hL] at hq;obtain⟨p0,c,a1,a2,a3,a4,a5,a6⟩:=(uK hw hq).1 ht;rw [a6];exact cl.e1 k1 p0 c (h.sb i p0 hi (by omega) a2) a3 a4 a5
  .rw [Bool.or_eq_false_iff] at e;have sm:=h.same e.1;rw [<-(sm i q hi hq).2];refine gZ e.2 hq ?_
   rw [hL] at hq;obtain⟨p0,c,a1,a2,a3⟩:=(uK hw hq).1 ht;exact (uK hw hq).2 ⟨p0,c,a1,by rw [(sm i p0 hi (by omega)).1];exact a2,a3⟩
 .have hl:=hk.kl k1;by_cases k2:y.kind=2
  .have hr:=hk.kr (.inl k2);have e1:FT w y i bg en=dO en i (iw (en i) (en y.r)):=by unfold FT;rw [if_neg k1,if_pos k2]
   have e2:Ce L w y i bg en=dQ L (en i) (en y.r):=by unfold Ce;rw [if_neg k1,if_pos k2]
   rw [e1,e2];refine⟨h.sU hi (fun q hq he=>cl.e2 (.inl k2) q (h.se y.r q (by omega) hq he)),fun e=>⟨fun k=>absurd k k1,fun _ q hq he=>?_,fun k=>by omega,fun _ k=>absurd k2 k⟩⟩;rw [Bool.or_eq_false_iff] at e;have sm:=h.same e.1;rw [<-(sm i q hi hq).2];exact gZ e.2 hq (by rw [(sm y.r q (by omega) hq).2];exact he)
  .have key:∀(e1:Nat->Nat->Bool) (g:Bool),FT w y i bg en=dO e1 i (iw (e1 i) (e1 y.l))->Ce L w y i bg en=(g || dQ L (e1 i) (e1 y.l))->Dw PB PE L n wK en0 bg e1 (more || g)->((more || g)=false->(y.kind=3->∀q,q<L->en0 y.r q=true->en0 i q=true)/\(y.kind=4\/y.kind=6->∀q,q<L->wK i q=true->en0 i q=true))->Dw PB PE L n wK en0 bg (FT w y i bg en) (more || Ce L w y i bg en)/\((more || Ce L w y i bg en)=false->WY L w y i wK en0):=by intro e1 g a1 a2 a3 a4;rw [a1,a2,<-Bool.or_assoc];refine⟨a3.sU hi (fun q hq he=>cl.eL k1 k2 q (a3.se y.l q (by omega) hq he)),fun e=>?_⟩;rw [Bool.or_eq_false_iff] at e;obtain⟨b1,b2⟩:=a4 e.1;have sm:=a3.same e.1;refine⟨fun k=>absurd k k1,fun k q hq he=>b1 (by omega) q hq he,b2,fun _ _ q hq he=>?_⟩;rw [<-(sm i q hi hq).2];exact gZ e.2 hq (by rw [(sm y.l q (by omega) hq).2];exact he)
   rcases hk.kd with k | k | k | k | k | k
   .exact absurd k k1
   .exact absurd k k2
   .have hr:=hk.kr (.inr k);refine key (dO en i (iw (en i) (en y.r))) (dQ L (en i) (en y.r)) ?_ ?_ (h.sU hi (fun q hq he=>cl.e2 (.inr k) q (h.se y.r q (by omega) hq he))) (fun e=>⟨fun _ q hq he=>?_,fun k'=>by omega⟩)
    .unfold FT;rw [if_neg k1,if_neg k2,if_pos k]
    .unfold Ce;rw [if_neg k1,if_neg k2,if_pos k,if_pos k]
    .rw [Bool.or_eq_false_iff] at e;have sm:=h.same e.1;rw [<-(sm i q hi hq).2];exact gZ e.2 hq (by rw [(sm y.r q (by omega) hq).2];exact he)
   .refine key (dO en i (iw (en i) (bg i))) (dQ L (en i) (bg i)) ?_ ?_ (h.sU hi (fun q hq he=>cl.e0 (.inl k) q (h.sb i q hi hq he))) (fun e=>⟨fun k'=>by omega,fun _ q hq he=>?_⟩)
    .unfold FT;rw [if_neg k1,if_neg k2,if_neg (by omega),if_neg (by omega)]
    .unfold Ce;rw [if_neg k1,if_neg k2,if_neg (by omega),if_neg (by omega),if_neg (by omega),if_neg (by omega)]
    .rw [Bool.or_eq_false_iff] at e;have sm:=h.same e.1;rw [<-(sm i q hi hq).2];exact gZ e.2 hq (by rw [(sm i q hi hq).1];exact he)
   .refine key en false ?_ ?_ (by rw [Bool.or_false];exact h) (fun e=>⟨fun k'=>by omega,fun k'=>by omega⟩)
    .unfold FT;rw [if_neg k1,if_neg k2,if_neg (by omega),if_pos k]
    .unfold Ce;rw [if_neg k1,if_neg k2,if_neg (by omega),if_pos k,if_neg (by omega),if_pos k]
   .refine key (dO en i (iw (en i) (bg i))) (dQ L (en i) (bg i)) ?_ ?_ (h.sU hi (fun q hq he=>cl.e0 (.inr k) q (h.sb i q hi hq he))) (fun e=>⟨fun k'=>by omega,fun _ q hq he=>?_⟩)
    .unfold FT;rw [if_neg k1,if_neg k2,if_neg (by omega),if_neg (by omega)]
    .unfold Ce;rw [if_neg k1,if_neg k2,if_neg (by omega),if_neg (by omega),if_neg (by omega),if_neg (by omega)]
    .rw [Bool.or_eq_false_iff] at e;have sm:=h.same e.1;rw [<-(sm i q hi hq).2];exact gZ e.2 hq (by rw [(sm i q hi hq).1];exact he)
theorem agB (hd:Rv L y i bg en) (hu:WY L w y i bg en) (hL:L=w.length+2) (hw:∀c∈w,c<256):Gn w (fun j p=>p<L/\bg j p=true) (fun j p=>p<L/\en j p=true) i y:=by
 refine⟨fun k p hp=>⟨hp.1,hd.c1 k p hp.1 hp.2⟩,fun k p hp=>⟨hp.1,hd.c2 k p hp.1 hp.2⟩,fun k p hp=>⟨hp.1,hd.c3 k p hp.1 hp.2⟩,fun k p hp=>⟨hp.1,hd.c4 k p hp.1 hp.2⟩,fun k p c hp h1 h2 h3=>?_,fun k q hq=>⟨hq.1,hu.e2 k q hq.1 hq.2⟩,fun k q hq=>⟨hq.1,hu.e0 k q hq.1 hq.2⟩,fun k1 k2 q hq=>⟨hq.1,hu.eL k1 k2 q hq.1 hq.2⟩⟩;have hq:ER w.length p<w.length+2:=by unfold ER;split <;> omega
 refine⟨by rw [hL];exact hq,hu.e1 k _ (by rw [hL];exact hq) ((uK hw hq).2 ⟨p,c,by rw [<-hL];exact hp.1,hp.2,h1,h2,h3,rfl⟩)⟩
end
theorem UJ {ls:List aC} {w:List Nat} {bg en:Nat->Nat->Bool} (hn:xU ls ns) {x:aC} (hk:ls[k]?=some x) (hL:L=w.length+2) (hw:∀c∈w,c<256)
  (h:Dw (kH w x.re (dK (ls.take k)) (fun p=>p=0)) (kI w x.re (dK (ls.take k)) (fun p=>p=0)) L ns.length bg en bg en false) (hd:∀i y,ns[i]?=some y->Rv L y i bg en/\WY L w y i bg en) (h0:bg (dK (ls.take k)+x.re.size-1) 0=true) {q:Nat} (hq:q<L):en (dK (ls.take k)+x.re.size-1) q=true↔nI w x.re (fun p=>p=0) q:=by
 have hA:=hn.at' k x hk;obtain⟨y,_,hy⟩:=hA.root;constructor
 .intro he;exact (jN x.re).1 (h.se _ q (mY hy) hq he)
 .rintro ⟨p,u,h1,h2,h3⟩;subst h1;exact (aby (w:=w) (PB:=fun j p=>p<L/\bg j p=true) (PE:=fun j p=>p<L/\en j p=true) (fun j y hj=>agB (hd j y hj).1 (hd j y hj).2 hL hw) x.re hA ⟨by omega,h0⟩ h2 h3).2
theorem abX {w:List Nat} {x:aM} (hw:∀c∈w,c<256):nI w x (fun p=>p=0) w.length↔M x w:=by
 constructor
 .rintro ⟨p,u,rfl,h2,h3⟩;have:=h3.ae4 (zl_ _);rw [List.drop_zero] at this;rw [<-this];exact h2
 .intro h;exact⟨0,w,rfl,h,Ac.ZN hw (zl_ _) rfl⟩
theorem Y1 {w:List Nat} {x:aM} (hw:∀c∈w,c<256):nI w x (fun p=>p=0) (w.length+1)↔∃v,v≠[]/\(∀c∈v,c<256)/\M x (w++v):=by
 constructor
 .rintro ⟨p,u,rfl,h2,h3⟩;obtain⟨v,v0,v1,v2⟩:=h3.acT (zl_ _);rw [List.drop_zero] at v2;exact⟨v,v0,v1,by rw [<-v2];exact h2⟩
 .rintro ⟨v,v0,v1,v2⟩;exact⟨0,w++v,rfl,v2,Ac.acs hw v0 v1⟩
end Pu
end Go.Proofs.YtmccnmgaoppogaaGreat
