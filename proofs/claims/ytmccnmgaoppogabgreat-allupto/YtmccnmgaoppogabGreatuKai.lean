import Derived.Test.YtmccnmgaoppogabGreatuKac
namespace Go.Proofs.YtmccnmgaoppogabGreat
open Pu
set_option linter.all false
open Go.Proofs.Tryz Tryz
set_option maxRecDepth 100000
set_option maxHeartbeats 8000000
variable {a b re:aM} {j k n p q:Nat} {u w:List Nat} {ls:List aC} {ps:List aJ}
namespace Pu
inductive M:aM->List Nat->Prop where
 | pl {T:Nat->Bool} {c:Nat}:T c=true->M (.pl T) [c]
 | cat {a b:aM} {u v:List Nat}:M a u->M b v->M (.cat a b) (u++v)
 | Il {a b:aM} {u:List Nat}:M a u->M (.alt a b) u
 | Im {a b:aM} {u:List Nat}:M b u->M (.alt a b) u
 | uh {a:aM}:M (.star a) []
 | vZ {a:aM} {u v:List Nat}:M a u->M (.star a) v->M (.star a) (u++v)
 | plus {a:aM} {u v:List Nat}:M a u->M (.star a) v->M (.plus a) (u++v)
 | LV {a:aM}:M (.opt a) []
 | LY {a:aM} {u:List Nat}:M a u->M (.opt a) u
def aM.iP:aM->Bool
 | .pl _=>false
 | .cat a b=>a.iP && b.iP
 | .alt a b=>a.iP || b.iP
 | .star _=>true
 | .plus a=>a.iP
 | .opt _=>true
theorem M.iP{re:aM}{w:List Nat}(h:M re w):w=[]->re.iP=true:=by
 induction h with
 | pl _=>intro e;cases e
 | cat _ _ d f=>intro e;obtain⟨g,i⟩:=List.append_eq_nil_iff.1 e;simp[aM.iP,d g,f i]
 | Il _ c=>intro e;simp[aM.iP,c e]
 | Im _ c=>intro e;simp[aM.iP,c e]
 | uh=>intro _;rfl
 | vZ _ _ _ _=>intro _;rfl
 | plus _ _ c _=>intro e;exact c (List.append_eq_nil_iff.1 e).1
 | LV=>intro _;rfl
 | LY _ _=>intro _;rfl
theorem RV(h:re.iP=true):M re []:=by
 induction re with
 | pl T=>cases h
 | cat a b c d=>simp only[aM.iP,Bool.and_eq_true]at h;exact M.cat (u:=[]) (v:=[]) (c h.1) (d h.2)
 | alt a b c d=>
  simp only[aM.iP,Bool.or_eq_true]at h;rcases h with h | h
  .exact .Il (c h)
  .exact .Im (d h)
 | star a _=>exact .uh
 | plus a e=>exact M.plus (u:=[]) (v:=[]) (e h) .uh
 | opt a _=>exact .LV
theorem aiw(re:aM):M re []↔re.iP=true:=⟨fun h=>h.iP rfl,RV⟩
def Fi:aM->Nat->Nat->Prop
 | .pl _,n,p=>p=n
 | .cat a b,n,p=>Fi a n p\/(a.iP=true/\Fi b (n+a.leaves) p)
 | .alt a b,n,p=>Fi a n p\/Fi b (n+a.leaves) p
 | .star a,n,p=>Fi a n p
 | .plus a,n,p=>Fi a n p
 | .opt a,n,p=>Fi a n p
def La:aM->Nat->Nat->Prop
 | .pl _,n,p=>p=n
 | .cat a b,n,p=>La b (n+a.leaves) p\/(b.iP=true/\La a n p)
 | .alt a b,n,p=>La a n p\/La b (n+a.leaves) p
 | .star a,n,p=>La a n p
 | .plus a,n,p=>La a n p
 | .opt a,n,p=>La a n p
def Fo:aM->Nat->Nat->Nat->Prop
 | .pl _,_,_,_=>False
 | .cat a b,n,p,q=>Fo a n p q\/Fo b (n+a.leaves) p q\/(La a n p/\Fi b (n+a.leaves) q)
 | .alt a b,n,p,q=>Fo a n p q\/Fo b (n+a.leaves) p q
 | .star a,n,p,q=>Fo a n p q\/(La a n p/\Fi a n q)
 | .plus a,n,p,q=>Fo a n p q\/(La a n p/\Fi a n q)
 | .opt a,n,p,q=>Fo a n p q
def Tk:aM->Nat->Nat->Nat->Prop
 | .pl T,n,p,c=>p=n/\T c=true
 | .cat a b,n,p,c=>Tk a n p c\/Tk b (n+a.leaves) p c
 | .alt a b,n,p,c=>Tk a n p c\/Tk b (n+a.leaves) p c
 | .star a,n,p,c=>Tk a n p c
 | .plus a,n,p,c=>Tk a n p c
 | .opt a,n,p,c=>Tk a n p c
def Rg(re:aM)(n p:Nat):Prop:=n<=p/\p<n+re.leaves
theorem Fi.rg:∀{n p:Nat},Fi re n p->Rg re n p:=by
 unfold Rg;induction re with
 | pl T=>intro n p h;simp[Fi,aM.leaves]at *;omega
 | cat a b c d=>
  rintro n p (h | ⟨_,h⟩)
  .have:=c h;simp[aM.leaves];omega
  .have:=d h;simp[aM.leaves];omega
 | alt a b c d=>
  rintro n p (h | h)
  .have:=c h;simp[aM.leaves];omega
  .have:=d h;simp[aM.leaves];omega
 | star a e=>intro n p h;exact e h
 | plus a e=>intro n p h;exact e h
 | opt a e=>intro n p h;exact e h
theorem La.rg:∀{n p:Nat},La re n p->Rg re n p:=by
 unfold Rg;induction re with
 | pl T=>intro n p h;simp[La,aM.leaves]at *;omega
 | cat a b c d=>
  rintro n p (h | ⟨_,h⟩)
  .have:=d h;simp[aM.leaves];omega
  .have:=c h;simp[aM.leaves];omega
 | alt a b c d=>
  rintro n p (h | h)
  .have:=c h;simp[aM.leaves];omega
  .have:=d h;simp[aM.leaves];omega
 | star a e=>intro n p h;exact e h
 | plus a e=>intro n p h;exact e h
 | opt a e=>intro n p h;exact e h
theorem Fo.rg{re:aM}:∀{n p q:Nat},Fo re n p q->Rg re n p/\Rg re n q:=by
 induction re with
 | pl T=>intro n p q h;exact h.elim
 | cat a b c d=>
  rintro n p q (h | h | ⟨h,f⟩)
  .have:=c h;simp[Rg,aM.leaves]at *;omega
  .have:=d h;simp[Rg,aM.leaves]at *;omega
  .have:=h.rg;have:=f.rg;simp[Rg,aM.leaves]at *;omega
 | alt a b c d=>
  rintro n p q (h | h)
  .have:=c h;simp[Rg,aM.leaves]at *;omega
  .have:=d h;simp[Rg,aM.leaves]at *;omega
 | star a e=>?_
 | plus a e=>?_
 | opt a e=>intro n p q h;exact e h
 all_goals
  rintro n p q (h | ⟨h,f⟩)
  .exact e h
  .exact⟨h.rg,f.rg⟩
theorem Tk.rg:∀{n p c:Nat},Tk re n p c->Rg re n p:=by
 unfold Rg;induction re with
 | pl T=>intro n p c h;simp[Tk,aM.leaves]at *;omega
 | cat a b e f=>?_
 | alt a b e f=>?_
 | star a d=>intro n p c h;exact d h
 | plus a d=>intro n p c h;exact d h
 | opt a d=>intro n p c h;exact d h
 all_goals
  rintro n p c (h | h)
  .have:=e h;simp[aM.leaves];omega
  .have:=f h;simp[aM.leaves];omega
inductive Pa(re:aM)(n:Nat):Nat->List Nat->Nat->Prop where
 | one {p c:Nat}:Tk re n p c->Pa re n p [c] p
 | cons {p q r c:Nat} {w:List Nat}:Tk re n p c->Fo re n p q->Pa re n q w r->Pa re n p (c::w) r
theorem Pa.lift{m:Nat}(h:Pa a n p w q)(d:∀p c,Tk a n p c->Tk b m p c)(e:∀p q,Fo a n p q->Fo b m p q):Pa b m p w q:=by
 induction h with
 | one k=>exact .one (d _ _ k)
 | cons k g _ f=>exact .cons (d _ _ k) (e _ _ g) f
theorem Pa.append{x y:Nat}{v:List Nat}(h:Pa re n p u x)(c:Fo re n x y)(d:Pa re n y v q):Pa re n p (u++v) q:=by
 induction h with
 | one k=>exact .cons k c d
 | cons k f _ e=>exact .cons k f (e c)
theorem Pa.ne(h:Pa re n p w q):w≠[]:=by cases h <;> simp
theorem Pa.rg{re:aM}{n p q:Nat}{w:List Nat}(h:Pa re n p w q):Rg re n p/\Rg re n q:=by
 induction h with
 | one k=>exact⟨k.rg,k.rg⟩
 | cons k _ _ c=>exact⟨k.rg,c.2⟩
def Acc(re:aM)(n:Nat)(w:List Nat):Prop:=∃p q,Fi re n p/\La re n q/\Pa re n p w q
theorem aai(h:Acc a n u)(f:b.iP=true):Acc (.cat a b) n u:=by obtain⟨p,q,c,d,e⟩:=h;exact⟨p,q,.inl c,.inr ⟨f,d⟩,e.lift (fun _ _ k=>.inl k) (fun _ _ k=>.inl k)⟩
theorem aaj(h:Acc b (n+a.leaves) u)(f:a.iP=true):Acc (.cat a b) n u:=by obtain⟨p,q,c,d,e⟩:=h;exact⟨p,q,.inr ⟨f,c⟩,.inl d,e.lift (fun _ _ k=>.inr k) (fun _ _ k=>.inr (.inl k))⟩
theorem adO{v:List Nat}(h:Acc a n u)(c:Acc b (n+a.leaves) v):Acc (.cat a b) n (u++v):=by obtain⟨p,q,d,e,f⟩:=h;obtain⟨s,r,g,i,l⟩:=c;exact⟨p,r,.inl d,.inl i,(f.lift (b:=.cat a b) (m:=n) (fun _ _ k=>.inl k) (fun _ _ k=>.inl k)).append (.inr (.inr ⟨e,g⟩)) (l.lift (fun _ _ k=>.inr k) (fun _ _ k=>.inr (.inl k)))⟩
theorem Ja(h:Acc a n u):Acc (.star a) n u:=by obtain⟨p,q,c,d,e⟩:=h;exact⟨p,q,c,d,e.lift (fun _ _ k=>k) (fun _ _ k=>.inl k)⟩
theorem Jb{v:List Nat}(h:Acc a n u)(c:Acc (.star a) n v):Acc (.star a) n (u++v):=by obtain⟨p,q,d,e,f⟩:=h;obtain⟨s,r,g,i,l⟩:=c;exact⟨p,r,d,i,(f.lift (b:=.star a) (m:=n) (fun _ _ k=>k) (fun _ _ k=>.inl k)).append (.inr ⟨e,g⟩) l⟩
theorem M.acc(h:M re w):∀n,w≠[]->Acc re n w:=by
 induction h with
 | pl h=>intro n _;exact⟨n,n,rfl,rfl,.one ⟨rfl,h⟩⟩
 | @cat a b u v g i c d=>
  intro n e;by_cases f:u=[]
  .subst f;exact aaj (d _ e) (g.iP rfl)
  .by_cases l:v=[]
   .subst l;rw[List.append_nil];exact aai (c _ f) (i.iP rfl)
   .exact adO (c _ f) (d _ l)
 | Il _ s=>intro n e;obtain⟨p,q,g,i,r⟩:=s n e;exact⟨p,q,.inl g,.inl i,r.lift (fun _ _ k=>.inl k) (fun _ _ k=>.inl k)⟩
 | @Im a b u _ s=>intro n e;obtain⟨p,q,g,i,r⟩:=s (n+a.leaves) e;exact⟨p,q,.inr g,.inr i,r.lift (fun _ _ k=>.inr k) (fun _ _ k=>.inr k)⟩
 | uh=>intro n e;exact absurd rfl e
 | @vZ a u v g i c d=>
  intro n e;by_cases f:u=[]
  .subst f;exact d _ e
  .by_cases l:v=[]
   .subst l;rw[List.append_nil];exact Ja (c _ f)
   .exact Jb (c _ f) (d _ l)
 | @plus a u v g i c d=>
  intro n e;have t:Acc (.star a) n (u++v):=by
   by_cases f:u=[]
   .subst f;exact d _ e
   .by_cases l:v=[]
    .subst l;rw[List.append_nil];exact Ja (c _ f)
    .exact Jb (c _ f) (d _ l)
  obtain⟨p,q,l,x,y⟩:=t;exact⟨p,q,l,x,y.lift (fun _ _ k=>k) (fun _ _ k=>k)⟩
 | LV=>intro n e;exact absurd rfl e
 | LY _ s=>intro n e;obtain⟨p,q,g,i,r⟩:=s n e;exact⟨p,q,g,i,r.lift (fun _ _ k=>k) (fun _ _ k=>k)⟩
theorem Jm(h:Pa (.cat a b) n p w q) :
  (Rg a n p->Pa a n p w q\/∃u v x y,w=u++v/\Pa a n p u x/\La a n x/\Fi b (n+a.leaves) y/\Pa b (n+a.leaves) y v q)/\(Rg b (n+a.leaves) p->Pa b (n+a.leaves) p w q):=by
 induction h with
 | @one p c k=>
  refine⟨fun e=>?_,fun e=>?_⟩
  .rcases k with k | k
   .exact .inl (.one k)
   .have:=k.rg;unfold Rg at *;omega
  .rcases k with k | k
   .have:=k.rg;unfold Rg at *;omega
   .exact .one k
 | @cons p l r c w k f _ i=>
  refine⟨fun e=>?_,fun e=>?_⟩
  .have d:Tk a n p c:=by
    rcases k with k | k
    .exact k
    .have:=k.rg;unfold Rg at *;omega
   rcases f with f | f | ⟨f,g⟩
   .rcases i.1 f.rg.2 with z | ⟨u,v,x,y,rfl,z1,z2⟩
    .exact .inl (.cons d f z)
    .exact .inr ⟨c::u,v,x,y,rfl,.cons d f z1,z2⟩
   .have:=f.rg;unfold Rg at *;omega
   .exact .inr ⟨[c],w,p,l,rfl,.one d,f,g,i.2 g.rg⟩
  .have d:Tk b (n+a.leaves) p c:=by
    rcases k with k | k
    .have:=k.rg;unfold Rg at *;omega
    .exact k
   rcases f with f | f | ⟨f,g⟩
   .have:=f.rg;unfold Rg at *;omega
   .exact .cons d f (i.2 f.rg.2)
   .have:=f.rg;unfold Rg at *;omega
theorem Je(h:Pa (.alt a b) n p w q):(Rg a n p->Pa a n p w q)/\(Rg b (n+a.leaves) p->Pa b (n+a.leaves) p w q):=by
 induction h with
 | @one p c k=>
  refine⟨fun d=>?_,fun d=>?_⟩
  .rcases k with k | k
   .exact .one k
   .have:=k.rg;unfold Rg at *;omega
  .rcases k with k | k
   .have:=k.rg;unfold Rg at *;omega
   .exact .one k
 | @cons p g r c w k f _ e=>
  refine⟨fun d=>?_,fun d=>?_⟩
  .rcases k with k | k
   .rcases f with f | f
    .exact .cons k f (e.1 f.rg.2)
    .have:=f.rg;unfold Rg at *;omega
   .have:=k.rg;unfold Rg at *;omega
  .rcases k with k | k
   .have:=k.rg;unfold Rg at *;omega
   .rcases f with f | f
    .have:=f.rg;unfold Rg at *;omega
    .exact .cons k f (e.2 f.rg.2)
theorem Uk(h:Pa (.star a) n p w q):Pa a n p w q\/∃u v x y,w=u++v/\Pa a n p u x/\La a n x/\Fi a n y/\Pa (.star a) n y v q:=by
 induction h with
 | one k=>exact .inl (.one k)
 | @cons p e r c w k f g d=>
  rcases f with f | ⟨f,f'⟩
  .rcases d with z | ⟨u,v,x,y,rfl,z1,z2⟩
   .exact .inl (.cons k f z)
   .exact .inr ⟨c::u,v,x,y,rfl,.cons k f z1,z2⟩
  .exact .inr ⟨[c],w,p,e,rfl,.one k,f,f',g⟩
theorem acD(g:∀w,Acc a n w->M a w):∀(k:Nat) (w:List Nat) (p q:Nat),w.length<=k->Fi a n p->La a n q->Pa (.star a) n p w q->∃u v,w=u++v/\M a u/\M (.star a) v:=by
 intro k;induction k with
 | zero=>intro w p q d _ _ h;exact absurd (List.eq_nil_of_length_eq_zero o_) h.ne
 | succ k c=>
  intro w p q d e f h;rcases Uk h with z | ⟨u,v,x,y,rfl,z1,z2,z3,z4⟩
  .exact⟨w,[],(List.append_nil _).symm,g w ⟨p,q,e,f,z⟩,.uh⟩
  .have i:=z1.ne;have A:0<u.length:=List.length_pos_iff.2 i;rw[la_]at d;obtain⟨s,t,rfl,l,r⟩:=c v y q o_ z3 f z4;exact⟨u,s++t,rfl,g u ⟨p,x,e,z2,z1⟩,.vZ l r⟩
theorem Acc.m:∀{n:Nat} {w:List Nat},Acc re n w->M re w:=by
 induction re with
 | pl T=>?_
 | cat a b e g=>?_
 | alt a b e g=>?_
 | star a l=>?_
 | plus a l=>?_
 | opt a l=>?_
 all_goals
  rintro n w ⟨p,q,d,c,i⟩
 .cases i with
  | one k=>exact .pl k.2
  | cons _ f _=>exact f.elim
 .rcases d with d | ⟨he,d⟩
  .rcases (Jm i).1 d.rg with z | ⟨u,v,x,y,rfl,z1,z2,z3,z4⟩
   .rcases c with c | ⟨hb,c⟩
    .have:=c.rg;have:=z.rg;unfold Rg at *;omega
    .have:=M.cat (e ⟨p,q,d,c,z⟩) (RV hb);rwa[List.append_nil]at this
   .rcases c with c | ⟨hb,c⟩
    .exact .cat (e ⟨p,x,d,z2,z1⟩) (g ⟨y,q,z3,c,z4⟩)
    .have:=c.rg;have:=z4.rg;unfold Rg at *;omega
  .have z:=(Jm i).2 d.rg;rcases c with c | ⟨hb,c⟩
   .exact M.cat (u:=[]) (RV he) (g ⟨p,q,d,c,z⟩)
   .have:=c.rg;have:=z.rg;unfold Rg at *;omega
 .rcases d with d | d
  .have z:=(Je i).1 d.rg;rcases c with c | c
   .exact .Il (e ⟨p,q,d,c,z⟩)
   .have:=c.rg;have:=z.rg;unfold Rg at *;omega
  .have z:=(Je i).2 d.rg;rcases c with c | c
   .have:=c.rg;have:=z.rg;unfold Rg at *;omega
   .exact .Im (g ⟨p,q,d,c,z⟩)
 .obtain⟨u,v,rfl,f,r⟩:=acD (fun w h=>l h) w.length w p q dF d c i;exact .vZ f r
 .obtain⟨u,v,rfl,f,r⟩:=acD (fun w h=>l h) w.length w p q dF d c (i.lift (fun _ _ k=>k) (fun _ _ k=>k));exact .plus f r
 .exact .LY (l ⟨p,q,d,c,i.lift (fun _ _ k=>k) (fun _ _ k=>k)⟩)
theorem aiv(re:aM)(n:Nat)(c:w≠[]):M re w↔Acc re n w:=⟨fun h=>h.acc n c,Acc.m⟩
theorem Pd(bH:List Nat)(q p:Nat):∀(fr:List Nat) (ps:List aJ),q∈nx (leads fr bH ps) p↔q∈nx ps p\/(p∈fr/\p<ps.length/\q∈bH):=by
 intro fr;induction fr with
 | nil=>intro ps;simp[leads]
 | cons x fr g=>
  intro ps;have e:leads (x::fr) bH ps=leads fr bH (xf bH ps x):=rfl;rw[e,g,su];have f:q∈nx (xf bH ps x) p↔q∈nx ps p\/(x=p/\p<ps.length/\q∈bH):=by
   unfold nx;rw[Ci];cases hp:ps[p]? with
   | none=>have:=List.getElem?_eq_none_iff.1 hp;simp only[Option.map_none,List.not_mem_nil,false_or,false_iff];omega
   | some y=>
    have d:p<ps.length:=(ge_.1 hp).1;simp only[Option.map_some];split
    .rename_i c;simp only[pU,c,d,true_and]
    .rename_i c;simp[c]
  rw[f,mm_];constructor
  .rintro ((h | ⟨h,d,c⟩) | ⟨h,d,c⟩)
   .exact .inl h
   .exact .inr ⟨.inl h.symm,d,c⟩
   .exact .inr ⟨.inr h,d,c⟩
  .rintro (h | ⟨h | h,d,c⟩)
   .exact .inl (.inl h)
   .exact .inl (.inr ⟨h.symm,d,c⟩)
   .exact .inr ⟨h,d,c⟩
theorem Pf(bH:List Nat)(p c:Nat):∀(fr:List Nat) (ps:List aJ),aZ (leads fr bH ps) p c=aZ ps p c:=by
 intro fr;induction fr with
 | nil=>intro ps;rfl
 | cons x fr d=>
  intro ps;have e:leads (x::fr) bH ps=leads fr bH (xf bH ps x):=rfl;rw[e,d];unfold aZ;rw[Ci];cases hp:ps[p]? with
  | none=>rfl
  | some y=>simp only[Option.map_some];split <;> rfl
theorem Cw(re:aM):∀ps,(part re ps).1.empty=re.iP:=by
 induction re with
 | pl T=>intro ps;rfl
 | cat a b c d=>intro ps;show (_ && _)=_;rw[c,d];rfl
 | alt a b c d=>intro ps;show (_ || _)=_;rw[c,d];rfl
 | star a e=>intro ps;show (_ || _)=_;rw[e];simp[aM.iP]
 | plus a e=>intro ps;show (_ || _)=_;rw[e];simp[aM.iP]
 | opt a e=>intro ps;show (_ || _)=_;rw[e];simp[aM.iP]
structure Net(re:aM)(ps:List aJ)(r:aK × List aJ):Prop where
 fi:∀p,p∈r.1.first↔Fi re ps.length p
 la:∀p,p∈r.1.last↔La re ps.length p
 fo:∀p q,q∈nx r.2 p↔q∈nx ps p\/Fo re ps.length p q
 aZ:∀p c,Pu.aZ r.2 p c=true↔Pu.aZ ps p c=true\/Tk re ps.length p c
theorem ace(re:aM):∀ps,Net re ps (part re ps):=by
 induction re with
 | pl T=>
  intro ps;have f:∀p,(ps++[(⟨T,[]⟩:aJ)])[p]?=if p=ps.length then some ⟨T,[]⟩ else ps[p]?:=by
   intro p;rw[List.getElem?_append];split
   .rw [if_neg o_]
   .split
    .rename_i h;subst h;simp
    .rw [gn_ (by simp;omega),gn_ o_]
  refine⟨fun p=>by simp[part,xB,Fi],fun p=>by simp[part,xB,La],fun p q=>?_,fun p c=>?_⟩
  .show q∈nx (ps++[⟨T,[]⟩]) p↔_;unfold nx;rw[f];split
   .rename_i h;split at h
    .rename_i e;cases h;subst e;simp[Fo]
    .rw [h];simp[Fo]
   .rename_i h;split at h
    .cases h
    .rw [h];simp[Fo]
  .show Pu.aZ (ps++[⟨T,[]⟩]) p c=true↔_;unfold Pu.aZ;rw[f];by_cases e:p=ps.length
   .subst e;simp[Tk]
   .rw [if_neg e];simp[Tk,e]
 | cat a b i l=>
  intro ps;have d:=i ps;have z:=l (part a ps).2;have t:=iC a ps;have B:=iC b (part a ps).2;have A:=Cw a ps;have eb:=Cw b (part a ps).2;obtain⟨r,s,v,x⟩:=z;rw[t]at r s v x;refine⟨fun p=>?_,fun p=>?_,fun p q=>?_,fun p c=>?_⟩
  .show p∈(if (part a ps).1.empty=true then _ else _)↔_;rw[A];split
   .rename_i h;rw[pU,d.fi,r];simp[Fi,h]
   .rename_i h;rw[d.fi];simp[Fi,h]
  .show p∈(if (part b _).1.empty=true then _ else _)↔_;rw[eb];split
   .rename_i h;rw[pU,d.la,s];simp only[La,h,true_and];exact Or.comm
   .rename_i h;rw[s];simp[La,h]
  .show q∈nx (leads _ _ _) p↔_;rw[Pd,v,d.fo,d.la,r,B,t];simp only[Fo];constructor
   .rintro (((h | h) | h) | ⟨e,_,g⟩)
    .exact .inl h
    .exact .inr (.inl h)
    .exact .inr (.inr (.inl h))
    .exact .inr (.inr (.inr ⟨e,g⟩))
   .rintro (h | h | h | ⟨e,g⟩)
    .exact .inl (.inl (.inl h))
    .exact .inl (.inl (.inr h))
    .exact .inl (.inr h)
    .have:=e.rg;exact .inr ⟨e,by unfold Rg at this;omega,g⟩
  .show Pu.aZ (leads _ _ _) p c=true↔_;rw[Pf,x,d.aZ];simp only[Tk];exact or_assoc
 | alt a b i l=>
  intro ps;have d:=i ps;have z:=l (part a ps).2;have t:=iC a ps;obtain⟨r,s,v,x⟩:=z;rw[t]at r s v x;refine⟨fun p=>?_,fun p=>?_,fun p q=>?_,fun p c=>?_⟩
  .show p∈un _ _↔_;rw[pU,d.fi,r];rfl
  .show p∈un _ _↔_;rw[pU,d.la,s];rfl
  .show q∈nx (part b _).2 p↔_;rw[v,d.fo];simp only[Fo];exact or_assoc
  .show Pu.aZ (part b _).2 p c=true↔_;rw[x,d.aZ];simp only[Tk];exact or_assoc
 | star a y=>?_
 | plus a y=>?_
 | opt a y=>intro ps;have d:=y ps;exact⟨d.fi,d.la,d.fo,d.aZ⟩
 all_goals
  intro ps;have d:=y ps;have t:=iC a ps;refine⟨d.fi,d.la,fun p q=>?_,fun p c=>?_⟩
  .show q∈nx (leads _ _ _) p↔_;rw[Pd,d.fo,d.la,d.fi,t];simp only[Fo];constructor
   .rintro ((h | h) | ⟨e,_,g⟩)
    .exact .inl h
    .exact .inr (.inl h)
    .exact .inr (.inr ⟨e,g⟩)
   .rintro (h | h | ⟨e,g⟩)
    .exact .inl (.inl h)
    .exact .inl (.inr h)
    .exact .inr ⟨e,e.rg.2,g⟩
  .show Pu.aZ (leads _ _ _) p c=true↔_;rw[Pf,d.aZ];rfl
end Pu
namespace Pu
def base(ls:List aC):Nat:=(ls.map (fun x=>x.re.leaves)).sum
theorem rD(a b:List aC):base (a++b)=base a+base b:=by simp[base]
theorem Fg(x:aC):base [x]=x.re.leaves:=by simp[base]
theorem KV(ls:List aC)(k:Nat):base (ls.take k)<=base ls:=by have:=rD (ls.take k) (ls.drop k);rw[List.take_append_drop]at this;omega
theorem xK{x:aC}(h:ls[k]?=some x):base (ls.take (k+1))=base (ls.take k)+x.re.leaves:=by rw[List.take_add_one,h,rD];simp[base]
theorem xJ(ls:List aC)(h:j<=k):base (ls.take j)<=base (ls.take k):=by have:=KV (ls.take k) j;rwa[List.take_take,Nat.min_eq_left h]at this
theorem uF{x y:aC}(e:ls[j]?=some x)(f:ls[k]?=some y)(c:Rg x.re (base (ls.take j)) p)(d:Rg y.re (base (ls.take k)) p):j=k:=by
 unfold Rg at c d;rcases Nat.lt_trichotomy j k with h | h | h
 .have:=xJ ls (show j+1<=k from h);rw[xK e]at this;omega
 .exact h
 .have:=xJ ls (show k+1<=j from h);rw[xK f]at this;omega
structure CU(ls:List aC)(q:List aD × List aJ):Prop where
 len:q.2.length=base ls
 ok:jh q.2
 n:q.1.length=ls.length
 get:∀k x,ls[k]?=some x->∃pt,q.1[k]?=some (x.lp pt)/\(∀p,p∈pt.first↔Fi x.re (base (ls.take k)) p)/\(∀p,p∈pt.last↔La x.re (base (ls.take k)) p)/\nO (base ls) pt/\pt.empty=x.re.iP
 fo:∀p q',q'∈nx q.2 p↔∃k x,ls[k]?=some x/\Fo x.re (base (ls.take k)) p q'
 aZ:∀p c,Pu.aZ q.2 p c=true↔∃k x,ls[k]?=some x/\Tk x.re (base (ls.take k)) p c
theorem ug{α:Type}{l:List α}{x y:α}(h:(l++[x])[k]?=some y):(k<l.length/\l[k]?=some y)\/(k=l.length/\y=x):=by
 rw[List.getElem?_append]at h;split at h
 .exact .inl ⟨y_,h⟩
 .rw [List.getElem?_singleton]at h;split at h
  .cases h;exact .inr ⟨o_,rfl⟩
  .cases h
theorem CU.add{q:List aD × List aJ}(h:CU ls q)(x:aC):CU (ls++[x]) (C9 q x):=by
 have d:=ace x.re q.2;have s:=AX x.re q.2 h.ok;have r:=iC x.re q.2;rw[h.len]at r;have t:base (ls++[x])=base ls+x.re.leaves:=by rw[rD,Fg]
 have e:∀{k:Nat},k<=ls.length->(ls++[x]).take k=ls.take k:=fun g=>List.take_append_of_le_length g;have bk:base ((ls++[x]).take ls.length)=base ls:=by rw[e dF,List.take_length]
 refine⟨by rw[t];exact r,s.2,by simp[C9,h.n],fun k y g=>?_,fun p D=>?_,fun p c=>?_⟩
 .rcases ug g with ⟨l,i⟩ | ⟨rfl,rfl⟩
  .obtain⟨C,f,v,z,A,B⟩:=h.get k y i;rw[e o_];refine⟨C,?_,v,z,A.mono o_,B⟩;show (q.1++_)[k]?=_;rw[al_ (by rw[h.n];exact l)];exact f
  .rw [bk];refine⟨(part y.re q.2).1,?_,?_,?_,?_,Cw _ _⟩
   .show (q.1++_)[ls.length]?=_;rw[<-h.n];simp
   .intro p;rw[<-h.len];exact d.fi p
   .intro p;rw[<-h.len];exact d.la p
   .rw [t,<-r];exact s.1
 show D∈nx (part x.re q.2).2 p↔_;rw[d.fo,h.fo,h.len];rotate_left;focus
  show Pu.aZ (part x.re q.2).2 p c=true↔_;rw[d.aZ,h.aZ,h.len]
 all_goals
  constructor
  .rintro (⟨k,y,g,f⟩ | f)
   .have l:k<ls.length:=(ge_.1 g).1;exact⟨k,y,by rw[al_ l];exact g,by rw[e o_];exact f⟩
   .exact⟨ls.length,x,i_,by rw[bk];exact f⟩
  .rintro ⟨k,y,g,f⟩;rcases ug g with ⟨l,i⟩ | ⟨rfl,rfl⟩
   .rw [e o_]at f;exact .inl ⟨k,y,i,f⟩
   .rw [bk]at f;exact .inr f
theorem aeB:CU [] (([],[]):List aD × List aJ):=
 ⟨rfl,fun p d=>by simp at d,rfl,fun k x h=>by simp at h,fun p q=>by simp[nx],fun p c=>by simp[Pu.aZ]⟩
theorem abM(r:List aC):∀(ls:List aC) (q:List aD × List aJ),CU ls q->CU (ls++r) (r.foldl C9 q):=by
 induction r with
 | nil=>intro ls q h;simpa using h
 | cons x r c=>intro ls q h;have:=c _ _ (h.add x);simpa using this
theorem jw(ls:List aC):CU ls (dx ls):=by simpa [dx]using abM ls [] ([],[]) aeB
theorem lV(ps:List aJ)(d:List Nat)(c p:Nat):p∈taking ps d c↔p∈d/\aZ ps p c=true:=by simp[taking]
theorem tT(ps:List aJ)(q:Nat)(S:List Nat):q∈jq ps S↔∃p,p∈S/\q∈nx ps p:=by
 have e:∀(S acc:List Nat),q∈S.foldl (fun acc p=>un acc (nx ps p)) acc↔q∈acc\/∃p,p∈S/\q∈nx ps p:=by
  intro S;induction S with
  | nil=>intro acc;simp
  | cons x S f=>
   intro acc;rw[List.foldl_cons,f,pU];constructor
   .rintro ((h | h) | ⟨p,c,d⟩)
    .exact .inl h
    .exact .inr ⟨x,ms_ ..,h⟩
    .exact .inr ⟨p,mc_ _ c,d⟩
   .rintro (h | ⟨p,c,d⟩)
    .exact .inl (.inl h)
    .rcases mm_.1 c with rfl | c
     .exact .inl (.inr d)
     .exact .inr ⟨p,c,d⟩
 unfold jq;rw[e];simp
theorem Cq(mode:Int)(p:Nat)(ls:List aD):p∈jQ ls mode↔∃x,x∈ls/\x.mode=mode/\p∈x.pt.first:=by
 have f:∀(ls:List aD) (acc:List Nat),p∈ls.foldl (fun acc x=>if x.mode=mode then un acc x.pt.first else acc) acc↔p∈acc\/∃x,x∈ls/\x.mode=mode/\p∈x.pt.first:=by
  intro ls;induction ls with
  | nil=>intro acc;simp
  | cons x ls g=>
   intro acc;rw[List.foldl_cons,g];split
   .rename_i e;rw[pU];constructor
    .rintro ((h | h) | ⟨y,c,d⟩)
     .exact .inl h
     .exact .inr ⟨x,ms_ ..,e,h⟩
     .exact .inr ⟨y,mc_ _ c,d⟩
    .rintro (h | ⟨y,c,d⟩)
     .exact .inl (.inl h)
     .rcases mm_.1 c with rfl | c
      .exact .inl (.inr d.2)
      .exact .inr ⟨y,c,d⟩
   .rename_i e;constructor
    .rintro (h | ⟨y,c,d⟩)
     .exact .inl h
     .exact .inr ⟨y,mc_ _ c,d⟩
    .rintro (h | ⟨y,c,d⟩)
     .exact .inl h
     .rcases mm_.1 c with rfl | c
      .exact absurd d.1 e
      .exact .inr ⟨y,c,d⟩
 unfold jQ;rw[f];simp
def goW(ps:List aJ):List Nat->List Nat->List Nat
 | S,[]=>S
 | S,c::w=>goW ps (taking ps (jq ps S) c) w
def Be(q:List aD × List aJ)(mode:Int):List Nat->List Nat
 | []=>[]
 | c::w=>goW q.2 (taking q.2 (jQ q.1 mode) c) w
inductive Tp(re:aM)(n:Nat):Nat->List Nat->Nat->Prop where
 | nil {p:Nat}:Tp re n p [] p
 | cons {p q r c:Nat} {w:List Nat}:Fo re n p q->Tk re n q c->Tp re n q w r->Tp re n p (c::w) r
theorem Pa.tp{r:Nat}(h:Pa re n p w r):∃c v,w=c::v/\Tk re n p c/\Tp re n p v r:=by
 induction h with
 | one k=>exact⟨_,_,rfl,k,.nil⟩
 | cons k f _ g=>obtain⟨c,v,rfl,d,e⟩:=g;exact⟨_,_,rfl,k,.cons f d e⟩
theorem Tp.pa{re:aM}{n p r c:Nat}{w:List Nat}(h:Tp re n p w r)(d:Tk re n p c):Pa re n p (c::w) r:=by
 induction h generalizing c with
 | nil=>exact .one d
 | cons f k _ e=>exact .cons d f (e k)
theorem afZ{r c:Nat}:Pa re n p (c::w) r↔Tk re n p c/\Tp re n p w r:=by
 constructor
 .intro h;obtain⟨g,v,e,d,f⟩:=h.tp;cases e;exact⟨d,f⟩
 .exact fun h=>h.2.pa h.1
section
variable {ls:List aC} {q:List aD × List aJ}
theorem aeG(h:CU ls q)(r:Nat):∀(w S:List Nat),(∀p∈S,∃k x,ls[k]?=some x/\Rg x.re (base (ls.take k)) p)->
  (r∈goW q.2 S w↔∃p,p∈S/\∃k x,ls[k]?=some x/\Rg x.re (base (ls.take k)) p/\Tp x.re (base (ls.take k)) p w r):=by
 intro w;induction w with
 | nil=>
  intro S B;constructor
  .intro c;obtain⟨k,x,d,s⟩:=B r c;exact⟨r,c,k,x,d,s,.nil⟩
  .rintro ⟨p,l,k,x,d,s,f⟩;cases f;exact l
 | cons c w F=>
  intro S B;show r∈goW q.2 (taking q.2 (jq q.2 S) c) w↔_;rw[F]
  .constructor
   .rintro ⟨C,t,k,x,d,s,f⟩;rw[lV,tT,h.aZ]at t;obtain⟨⟨p,l,e⟩,j,y,A,g⟩:=t;rw[h.fo]at e;obtain⟨i,z,v,e⟩:=e;have D:=uF A d g.rg s;subst D;have E:=uF v d e.rg.2 s;subst E;rw[d]at A v;cases A;cases v;exact⟨p,l,i,x,d,e.rg.1,.cons e g f⟩
   .rintro ⟨p,l,k,x,d,s,f⟩;cases f with
    | @cons _ C _ _ _ e g f=>refine⟨C,?_,k,x,d,e.rg.2,f⟩;rw[lV,tT,h.aZ];exact⟨⟨p,l,(h.fo _ _).2 ⟨k,x,d,e⟩⟩,k,x,d,g⟩
  .intro p l;rw[lV,h.aZ]at l;obtain⟨_,k,x,d,f⟩:=l;exact⟨k,x,d,f.rg⟩
theorem Px(h:CU ls q)(mode:Int)(w:List Nat)(J:w≠[])(r:Nat) :
  r∈Be q mode w↔∃k x,ls[k]?=some x/\x.mode=mode/\∃p,Fi x.re (base (ls.take k)) p/\Pa x.re (base (ls.take k)) p w r:=by
 cases w with
 | nil=>exact absurd rfl J
 | cons c w=>
  show r∈goW q.2 (taking q.2 (jQ q.1 mode) c) w↔_;rw[aeG h]
  .constructor
   .rintro ⟨p,f,k,x,d,E,l⟩;rw[lV,Cq,h.aZ]at f;obtain⟨⟨y,K,D,t⟩,j,z,C,e⟩:=f;obtain⟨i,F⟩:=gf_ K;have B:i<ls.length:=by rw[<-h.n];exact (ge_.1 F).1
    obtain⟨u,v⟩:=rG ls i B;obtain⟨G,s,A,-⟩:=h.get i u v;rw[F]at s;cases s;have g:=(A p).1 t;have H:=uF C d e.rg E;subst H;have I:=uF v d g.rg E;subst I;rw[d]at C v;cases C;cases v;exact⟨i,x,d,D,p,g,afZ.2 ⟨e,l⟩⟩
   .rintro ⟨k,x,d,D,p,t,f⟩;obtain⟨e,l⟩:=afZ.1 f;refine⟨p,?_,k,x,d,t.rg,l⟩;obtain⟨G,s,A,-⟩:=h.get k x d;rw[lV,Cq,h.aZ];exact⟨⟨x.lp G,mg_ s,D,(A p).2 t⟩,k,x,d,e⟩
  .intro p f;rw[lV,h.aZ]at f;obtain⟨_,k,x,d,l⟩:=f;exact⟨k,x,d,l.rg⟩
theorem Yz(h:CU ls q)(mode:Int)(w:List Nat)(r:w≠[]){k:Nat}{x:aC}(i:ls[k]?=some x) :
  (∃p,p∈Be q mode w/\La x.re (base (ls.take k)) p)↔x.mode=mode/\M x.re w:=by
 rw[aiv x.re (base (ls.take k)) r];constructor
 .rintro ⟨p,t,d⟩;rw[Px h mode w r]at t;obtain⟨j,y,g,l,s,f,c⟩:=t;have e:=uF g i c.rg.2 d.rg;subst e;rw[i]at g;cases g;exact⟨l,s,p,f,d,c⟩
 .rintro ⟨l,s,p,f,d,c⟩;exact⟨p,(Px h mode w r p).2 ⟨k,x,i,l,s,f,c⟩,d⟩
theorem FK{l:List Nat}(f:Nat->Bool)(h:Ni l):Ni (l.filter f):=List.Pairwise.filter f h
theorem yM{ls:List aD}(mode:Int)(h:∀x∈ls,nO n x.pt):sJ n (jQ ls mode):=by
 have c:∀(ls:List aD) (acc:List Nat),(∀x∈ls,nO n x.pt)->sJ n acc->sJ n (ls.foldl (fun acc x=>if x.mode=mode then un acc x.pt.first else acc) acc):=by
  intro ls;induction ls with
  | nil=>intro acc _ h;exact h
  | cons x ls f=>
   intro acc h d;refine f _ (fun y e=>h y (mc_ _ e)) ?_;show sJ n (if x.mode=mode then un acc x.pt.first else acc);split
   .exact d.un (h x (ms_ ..)).1
   .exact d
 exact c ls [] h (.nil _)
theorem ahm(h:jh ps)(p:Nat):sJ ps.length (nx ps p):=by
 unfold nx;split
 .rename_i x c;exact h x (mg_ c)
 .exact .nil _
theorem sV(h:jh ps)(S:List Nat):sJ ps.length (jq ps S):=by
 have c:∀(S acc:List Nat),sJ ps.length acc->sJ ps.length (S.foldl (fun acc p=>un acc (nx ps p)) acc):=by
  intro S;induction S with
  | nil=>intro acc h;exact h
  | cons x S e=>intro acc d;exact e _ (d.un (ahm h x))
 exact c S [] (.nil _)
theorem rf(ps:List aJ){l:List Nat}(c:Nat)(h:sJ n l):sJ n (taking ps l c):=⟨FK _ h.1,fun x d=>h.2 x (List.mem_filter.1 d).1⟩
theorem aec(h:jh ps):∀(w S:List Nat),sJ ps.length S->sJ ps.length (goW ps S w):=by
 intro w;induction w with
 | nil=>intro S d;exact d
 | cons c w e=>intro S d;exact e _ (rf ps c (sV h S))
theorem CU.pts(h:CU ls q):∀x∈q.1,nO (base ls) x.pt:=by
 intro x g;obtain⟨i,e⟩:=gf_ g;have c:i<ls.length:=by rw[<-h.n];exact (ge_.1 e).1
 obtain⟨l,d,_,_,f,_⟩:=h.get i _ (gg_ c);rw[e]at d;cases d;exact f
theorem acw(h:CU ls q)(mode:Int)(w:List Nat):sJ (base ls) (Be q mode w):=by
 cases w with
 | nil=>exact .nil _
 | cons c w=>rw[<-h.len];refine aec h.ok w _ (rf _ c ?_);rw[h.len];exact yM mode h.pts
theorem wL(t:List Nat):∀(l:List aD) (k:Nat),(lq t l k=-1/\∀(i:Nat) (x:aD),l[i]?=some x->meet x.pt.last t=false)\/(∃(i:Nat) (x:aD),l[i]?=some x/\lq t l k=((k+i:Nat):Int)/\meet x.pt.last t=true/\∀(j:Nat) (y:aD),j<i->l[j]?=some y->meet y.pt.last t=false):=by
 intro l;induction l with
 | nil=>intro k;exact .inl ⟨rfl,fun i x h=>by simp at h⟩
 | cons x l v=>
  intro k;unfold lq;by_cases d:meet x.pt.last t=true
  .rw [if_pos d];exact .inr ⟨0,x,rfl,rfl,d,fun j y g=>o_⟩
  .rw [if_neg d];have c:meet x.pt.last t=false:=by simpa using d
   rcases v (k+1) with ⟨e,f⟩ | ⟨i,y,e,f,h,s⟩
   .refine .inl ⟨e,fun i y g=>?_⟩;cases i with
    | zero=>simp at g;subst g;exact c
    | succ i=>exact f i y (by simpa using g)
   .refine .inr ⟨i+1,y,by simpa using e,by rw[f];congr 1;omega,h,fun j z g r=>?_⟩;cases j with
    | zero=>simp at r;subst r;exact c
    | succ j=>exact s j z o_ (by simpa using r)
def pJ(ls:List aC)(mode:Int)(w:List Nat)(r:Int):Prop:=
 (r=-1/\∀(i:Nat) (x:aC),ls[i]?=some x->x.mode=mode->¬M x.re w)\/(∃(i:Nat) (x:aC),r=i/\ls[i]?=some x/\x.mode=mode/\M x.re w/\∀(j:Nat) (y:aC),j<i->ls[j]?=some y->y.mode=mode->¬M y.re w)
theorem qA(h:CU ls q)(mode:Int)(w:List Nat)(E:w≠[]):pJ ls mode w (gX q.1 (Be q mode w)):=by
 have l:=acw h mode w;have c:∀(k:Nat) (x:aC) (y:aD),ls[k]?=some x->q.1[k]?=some y->(meet y.pt.last (Be q mode w)=true↔x.mode=mode/\M x.re w):=by intro k x y f g;obtain⟨i,e,_,d,r,_⟩:=h.get k x f;rw[g]at e;cases e;rw[<-Yz h mode w E f];show meet i.last _=true↔_;rw[abV _ _ r.2.1 l.1];exact⟨fun ⟨p,a,b⟩=>⟨p,b,(d p).1 a⟩,fun ⟨p,a,b⟩=>⟨p,(d p).2 b,a⟩⟩
 have d:∀{k:Nat} {x:aC},ls[k]?=some x->∃y,q.1[k]?=some y:=by intro k x f;obtain⟨i,e,_⟩:=h.get k x f;exact⟨_,e⟩
 rcases wL (Be q mode w) q.1 0 with ⟨f,r⟩ | ⟨i,y,f,r,B,C⟩
 .refine .inl ⟨f,fun i x e t s=>?_⟩;obtain⟨y,g⟩:=d e;have:=(c i x y e g).2 ⟨t,s⟩;rw[r i y g]at this;cases this
 .have g:i<ls.length:=by rw[<-h.n];exact (ge_.1 f).1
  have v:=gg_ g;have:=(c i _ y v f).1 B;refine .inr ⟨i,_,by show lq _ _ _=_;rw[r];simp,v,this.1,this.2,fun j z D A t s=>?_⟩;obtain⟨x,e⟩:=d A;have:=(c j z x A e).2 ⟨t,s⟩;rw[C j x D e]at this;cases this
end
end Pu
namespace Pu
structure aF where
 kind:Nat
 l:Nat
 r:Nat
 inn:Nat->Bool
def aM.size:aM->Nat
 | .pl _=>1
 | .cat a b=>a.size+b.size+1
 | .alt a b=>a.size+b.size+1
 | .star a=>a.size+1
 | .plus a=>a.size+1
 | .opt a=>a.size+1
theorem aM.size_pos(re:aM):0<re.size:=by cases re <;> simp[aM.size]
def nodes:aM->Nat->List aF
 | .pl T,_=>[⟨1,0,0,T⟩]
 | .cat a b,m=>nodes a m++nodes b (m+a.size)++[⟨2,m+a.size-1,m+a.size+b.size-1,dW⟩]
 | .alt a b,m=>nodes a m++nodes b (m+a.size)++[⟨3,m+a.size-1,m+a.size+b.size-1,dW⟩]
 | .star a,m=>nodes a m++[⟨4,m+a.size-1,0,dW⟩]
 | .plus a,m=>nodes a m++[⟨5,m+a.size-1,0,dW⟩]
 | .opt a,m=>nodes a m++[⟨6,m+a.size-1,0,dW⟩]
theorem bT(re:aM):∀m,(nodes re m).length=re.size:=by
 induction re with
 | pl T=>intro m;rfl
 | cat a b c d=>intro m;simp[nodes,c,d,aM.size];omega
 | alt a b c d=>intro m;simp[nodes,c,d,aM.size];omega
 | star a e=>intro m;simp[nodes,e,aM.size]
 | plus a e=>intro m;simp[nodes,e,aM.size]
 | opt a e=>intro m;simp[nodes,e,aM.size]
def ag(ns:List aF)(re:aM)(m:Nat):Prop:=∀i x,(nodes re m)[i]?=some x->ns[m+i]?=some x
theorem ag.left{ns b c:List aF}{m:Nat}(h:∀i x,(nodes a m++b++c)[i]?=some x->ns[m+i]?=some x):ag ns a m:=by intro i x d;have e:i<(nodes a m).length:=(ge_.1 d).1;exact h i x (by rw[aa_,al_ e];exact d)
theorem ag.right{ns a c:List aF}{m:Nat}(e:a.length=k)(h:∀i x,(a++nodes b (m+k)++c)[i]?=some x->ns[m+i]?=some x):ag ns b (m+k):=by intro i x d;have f:i<(nodes b (m+k)).length:=(ge_.1 d).1;have:=h (k+i) x (by rw[aa_,ar_ o_,e,(o_:k+i-k=i),al_ f];exact d);rwa[<-Nat.add_assoc]at this
theorem ag.root{ns:List aF}{m:Nat}(h:ag ns re m):∃x,(nodes re m)[re.size-1]?=some x/\ns[m+re.size-1]?=some x:=by
 have d:=re.size_pos;have c:re.size-1<(nodes re m).length:=by rw[bT];omega
 refine⟨_,gg_ c,?_⟩;have:=h _ _ (gg_ c);rwa[(o_:m+(re.size-1)=m+re.size-1)]at this
def Iy:aM->Nat->Nat->Bool
 | .pl _,m,k=>decide (k=m)
 | .cat a b,m,k=>Iy a m k || (a.iP && Iy b (m+a.size) k)
 | .alt a b,m,k=>Iy a m k || Iy b (m+a.size) k
 | .star a,m,k=>Iy a m k
 | .plus a,m,k=>Iy a m k
 | .opt a,m,k=>Iy a m k
def Nb:aM->Nat->Nat->Bool
 | .pl _,m,k=>decide (k=m)
 | .cat a b,m,k=>Nb b (m+a.size) k || (b.iP && Nb a m k)
 | .alt a b,m,k=>Nb a m k || Nb b (m+a.size) k
 | .star a,m,k=>Nb a m k
 | .plus a,m,k=>Nb a m k
 | .opt a,m,k=>Nb a m k
def Ew:aM->Nat->Nat->Nat->Bool
 | .pl _,_,_,_=>false
 | .cat a b,m,i,k=>Ew a m i k || Ew b (m+a.size) i k || (Nb a m i && Iy b (m+a.size) k)
 | .alt a b,m,i,k=>Ew a m i k || Ew b (m+a.size) i k
 | .star a,m,i,k=>Ew a m i k || (Nb a m i && Iy a m k)
 | .plus a,m,i,k=>Ew a m i k || (Nb a m i && Iy a m k)
 | .opt a,m,i,k=>Ew a m i k
def nu:aM->Nat->Nat->Nat->Nat
 | .pl _,_,m,_=>m
 | .cat a b,n,m,p=>if p<n+a.leaves then nu a n m p else nu b (n+a.leaves) (m+a.size) p
 | .alt a b,n,m,p=>if p<n+a.leaves then nu a n m p else nu b (n+a.leaves) (m+a.size) p
 | .star a,n,m,p=>nu a n m p
 | .plus a,n,m,p=>nu a n m p
 | .opt a,n,m,p=>nu a n m p
theorem aM.wO(re:aM):0<re.leaves:=by
 induction re with
 | pl T=>simp[aM.leaves]
 | cat a b _ _=>simp only[aM.leaves];omega
 | alt a b _ _=>simp only[aM.leaves];omega
 | star a c=>exact c
 | plus a c=>exact c
 | opt a c=>exact c
theorem Dt(re:aM):∀{n m p:Nat},Rg re n p->m<=nu re n m p/\nu re n m p<m+re.size:=by
 unfold Rg;induction re with
 | pl T=>intro n m p h;simp[nu,aM.size]
 | cat a b iha ihb=>?_
 | alt a b iha ihb=>?_
 | star a ih=>intro n m p h;have:=@ih n m p h;simp only[aM.size,nu];omega
 | plus a ih=>intro n m p h;have:=@ih n m p h;simp only[aM.size,nu];omega
 | opt a ih=>intro n m p h;have:=@ih n m p h;simp only[aM.size,nu];omega
 all_goals
  intro n m p h;simp only[aM.leaves,aM.size,nu]at *;split
  .have:=@iha n m p o_;omega
  .have:=@ihb (n+a.leaves) (m+a.size) p o_;omega
theorem afW(re:aM):∀{n m p q:Nat},Rg re n p->Rg re n q->p<q->nu re n m p<nu re n m q:=by
 induction re with
 | pl T=>intro n m p q h c d;simp only[Rg,aM.leaves]at *;omega
 | cat a b f g=>?_
 | alt a b f g=>?_
 | star a e=>intro n m p q h c d;exact e h c d
 | plus a e=>intro n m p q h c d;exact e h c d
 | opt a e=>intro n m p q h c d;exact e h c d
 all_goals
  intro n m p q h c d;simp only[Rg,aM.leaves]at h c;simp only[nu];by_cases i:p<n+a.leaves
  .rw [if_pos i];by_cases l:q<n+a.leaves
   .rw [if_pos l];exact f ⟨h.1,i⟩ ⟨c.1,l⟩ d
   .rw [if_neg l];have x:=@Dt a n m p ⟨h.1,i⟩;have y:=@Dt b (n+a.leaves) (m+a.size) q ⟨o_,o_⟩;omega
  .rw [if_neg i,if_neg o_];exact g ⟨o_,o_⟩ ⟨o_,o_⟩ d
theorem ahk(re:aM){m:Nat}(h:Rg re n p)(c:Rg re n q)(e:nu re n m p=nu re n m q):p=q:=by
 rcases Nat.lt_trichotomy p q with k | k | k
 .have:=afW re (m:=m) h c k;omega
 .exact k
 .have:=afW re (m:=m) c h k;omega
theorem qE(b:aM){m:Nat}(h:Rg a n p):nu (.cat a b) n m p=nu a n m p:=by simp only[nu];rw[if_pos h.2]
theorem qF(a:aM){m:Nat}(h:Rg b (n+a.leaves) p):nu (.cat a b) n m p=nu b (n+a.leaves) (m+a.size) p:=by simp only[nu];rw[if_neg (by have:=h.1;omega)]
theorem sw(b:aM){m:Nat}(h:Rg a n p):nu (.alt a b) n m p=nu a n m p:=by simp only[nu];rw[if_pos h.2]
theorem sD(a:aM){m:Nat}(h:Rg b (n+a.leaves) p):nu (.alt a b) n m p=nu b (n+a.leaves) (m+a.size) p:=by simp only[nu];rw[if_neg (by have:=h.1;omega)]
theorem Vd(re:aM):∀(n m k:Nat),Iy re m k=true↔∃p,Fi re n p/\nu re n m p=k:=by
 induction re with
 | pl T=>intro n m k;simp[Iy,Fi,nu,eq_comm]
 | cat a b e f=>
  intro n m k;simp only[Iy,Bool.or_eq_true,Bool.and_eq_true,e n m k,f (n+a.leaves) (m+a.size) k];constructor
  .rintro (⟨p,c,d⟩ | ⟨g,p,c,d⟩)
   .exact⟨p,.inl c,by rw[qE b c.rg];exact d⟩
   .exact⟨p,.inr ⟨g,c⟩,by rw[qF a c.rg];exact d⟩
  .rintro ⟨p,c | ⟨g,c⟩,d⟩
   .rw [qE b c.rg]at d;exact .inl ⟨p,c,d⟩
   .rw [qF a c.rg]at d;exact .inr ⟨g,p,c,d⟩
 | alt a b e f=>
  intro n m k;simp only[Iy,Bool.or_eq_true,e n m k,f (n+a.leaves) (m+a.size) k];constructor
  .rintro (⟨p,c,d⟩ | ⟨p,c,d⟩)
   .exact⟨p,.inl c,by rw[sw b c.rg];exact d⟩
   .exact⟨p,.inr c,by rw[sD a c.rg];exact d⟩
  .rintro ⟨p,c | c,d⟩
   .rw [sw b c.rg]at d;exact .inl ⟨p,c,d⟩
   .rw [sD a c.rg]at d;exact .inr ⟨p,c,d⟩
 | star a c=>intro n m k;exact c n m k
 | plus a c=>intro n m k;exact c n m k
 | opt a c=>intro n m k;exact c n m k
theorem aez(re:aM):∀(n m k:Nat),Nb re m k=true↔∃p,La re n p/\nu re n m p=k:=by
 induction re with
 | pl T=>intro n m k;simp[Nb,La,nu,eq_comm]
 | cat a b e f=>
  intro n m k;simp only[Nb,Bool.or_eq_true,Bool.and_eq_true,e n m k,f (n+a.leaves) (m+a.size) k];constructor
  .rintro (⟨p,c,d⟩ | ⟨g,p,c,d⟩)
   .exact⟨p,.inl c,by rw[qF a c.rg];exact d⟩
   .exact⟨p,.inr ⟨g,c⟩,by rw[qE b c.rg];exact d⟩
  .rintro ⟨p,c | ⟨g,c⟩,d⟩
   .rw [qF a c.rg]at d;exact .inl ⟨p,c,d⟩
   .rw [qE b c.rg]at d;exact .inr ⟨g,p,c,d⟩
 | alt a b e f=>
  intro n m k;simp only[Nb,Bool.or_eq_true,e n m k,f (n+a.leaves) (m+a.size) k];constructor
  .rintro (⟨p,c,d⟩ | ⟨p,c,d⟩)
   .exact⟨p,.inl c,by rw[sw b c.rg];exact d⟩
   .exact⟨p,.inr c,by rw[sD a c.rg];exact d⟩
  .rintro ⟨p,c | c,d⟩
   .rw [sw b c.rg]at d;exact .inl ⟨p,c,d⟩
   .rw [sD a c.rg]at d;exact .inr ⟨p,c,d⟩
 | star a c=>intro n m k;exact c n m k
 | plus a c=>intro n m k;exact c n m k
 | opt a c=>intro n m k;exact c n m k
theorem NW{n' m g i:Nat}:(Nb a m i=true/\Iy b g k=true)↔∃p q,(La a n p/\Fi b n' q)/\nu a n m p=i/\nu b n' g q=k:=by rw[aez a n m i,Vd b n' g k];exact⟨fun ⟨⟨p,c,d⟩,q,e,f⟩=>⟨p,q,⟨c,e⟩,d,f⟩,fun ⟨p,q,⟨c,e⟩,d,f⟩=>⟨⟨p,c,d⟩,q,e,f⟩⟩
theorem ad9(re:aM):∀(n m i k:Nat),Ew re m i k=true↔∃p q,Fo re n p q/\nu re n m p=i/\nu re n m q=k:=by
 induction re with
 | pl T=>intro n m i k;simp[Ew,Fo]
 | cat a b e f=>
  intro n m i k;simp only[Ew,Bool.or_eq_true,Bool.and_eq_true,e n m i k,f (n+a.leaves) (m+a.size) i k];rw[NW (n:=n) (n':=n+a.leaves)];constructor
  .rintro ((⟨p,q,h,c,d⟩ | ⟨p,q,h,c,d⟩) | ⟨p,q,h,c,d⟩)
   .exact⟨p,q,.inl h,by rw[qE b h.rg.1];exact c,by rw[qE b h.rg.2];exact d⟩
   .exact⟨p,q,.inr (.inl h),by rw[qF a h.rg.1];exact c,by rw[qF a h.rg.2];exact d⟩
   .exact⟨p,q,.inr (.inr h),by rw[qE b h.1.rg];exact c,by rw[qF a h.2.rg];exact d⟩
  .rintro ⟨p,q,h | h | h,c,d⟩
   .rw [qE b h.rg.1]at c;rw[qE b h.rg.2]at d;exact .inl (.inl ⟨p,q,h,c,d⟩)
   .rw [qF a h.rg.1]at c;rw[qF a h.rg.2]at d;exact .inl (.inr ⟨p,q,h,c,d⟩)
   .rw [qE b h.1.rg]at c;rw[qF a h.2.rg]at d;exact .inr ⟨p,q,h,c,d⟩
 | alt a b e f=>
  intro n m i k;simp only[Ew,Bool.or_eq_true,e n m i k,f (n+a.leaves) (m+a.size) i k];constructor
  .rintro (⟨p,q,h,c,d⟩ | ⟨p,q,h,c,d⟩)
   .exact⟨p,q,.inl h,by rw[sw b h.rg.1];exact c,by rw[sw b h.rg.2];exact d⟩
   .exact⟨p,q,.inr h,by rw[sD a h.rg.1];exact c,by rw[sD a h.rg.2];exact d⟩
  .rintro ⟨p,q,h | h,c,d⟩
   .rw [sw b h.rg.1]at c;rw[sw b h.rg.2]at d;exact .inl ⟨p,q,h,c,d⟩
   .rw [sD a h.rg.1]at c;rw[sD a h.rg.2]at d;exact .inr ⟨p,q,h,c,d⟩
 | star a g=>?_
 | plus a g=>?_
 | opt a g=>intro n m i k;exact g n m i k
 all_goals
  intro n m i k;simp only[Ew,Bool.or_eq_true,Bool.and_eq_true,g n m i k];rw[NW (n:=n) (n':=n)];constructor
  .rintro (⟨p,q,h,c,d⟩ | ⟨p,q,h,c,d⟩)
   .exact⟨p,q,.inl h,c,d⟩
   .exact⟨p,q,.inr h,c,d⟩
  .rintro ⟨p,q,h | h,c,d⟩
   .exact .inl ⟨p,q,h,c,d⟩
   .exact .inr ⟨p,q,h,c,d⟩
theorem ab4(re:aM):∀(n m c p:Nat),Rg re n p->∃T,(nodes re m)[nu re n m p-m]?=some ⟨1,0,0,T⟩/\(Tk re n p c↔T c=true):=by
 induction re with
 | pl T=>
  intro n m c p h;refine⟨T,by simp[nodes,nu],?_⟩;simp only[Rg,aM.leaves]at h;have e:p=n:=o_;simp[Tk,e]
 | cat a b l r=>
  intro n m c p h;simp only[Rg,aM.leaves]at h;by_cases s:p<n+a.leaves
  .have f:Rg a n p:=⟨h.1,s⟩;obtain⟨T,d,g⟩:=l n m c p f;have i:nu a n m p-m<(nodes a m).length:=(ge_.1 d).1;refine⟨T,?_,?_⟩
   .rw [qE b f];show (nodes a m++_++_)[_]?=_;rw[aa_,al_ i];exact d
   .rw [<-g];exact⟨fun k=>k.elim id (fun k=>absurd k.rg.1 o_),.inl⟩
  .have f:Rg b (n+a.leaves) p:=⟨o_,o_⟩;obtain⟨T,d,g⟩:=r (n+a.leaves) (m+a.size) c p f;have i:nu b (n+a.leaves) (m+a.size) p-(m+a.size)<(nodes b (m+a.size)).length:=(ge_.1 d).1;have t:=@Dt b (n+a.leaves) (m+a.size) p f;refine⟨T,?_,?_⟩
   .rw [qF a f];show (nodes a m++_++_)[_]?=_;rw[aa_,ar_ (by rw[bT];omega),bT,(o_:nu b (n+a.leaves) (m+a.size) p-m-a.size=nu b (n+a.leaves) (m+a.size) p-(m+a.size)),al_ i];exact d
   .rw [<-g];exact⟨fun k=>k.elim (fun k=>absurd k.rg.2 o_) id,.inr⟩
 | alt a b l r=>
  intro n m c p h;simp only[Rg,aM.leaves]at h;by_cases s:p<n+a.leaves
  .have f:Rg a n p:=⟨h.1,s⟩;obtain⟨T,d,g⟩:=l n m c p f;have i:nu a n m p-m<(nodes a m).length:=(ge_.1 d).1;refine⟨T,?_,?_⟩
   .rw [sw b f];show (nodes a m++_++_)[_]?=_;rw[aa_,al_ i];exact d
   .rw [<-g];exact⟨fun k=>k.elim id (fun k=>absurd k.rg.1 o_),.inl⟩
  .have f:Rg b (n+a.leaves) p:=⟨o_,o_⟩;obtain⟨T,d,g⟩:=r (n+a.leaves) (m+a.size) c p f;have i:nu b (n+a.leaves) (m+a.size) p-(m+a.size)<(nodes b (m+a.size)).length:=(ge_.1 d).1;have t:=@Dt b (n+a.leaves) (m+a.size) p f;refine⟨T,?_,?_⟩
   .rw [sD a f];show (nodes a m++_++_)[_]?=_;rw[aa_,ar_ (by rw[bT];omega),bT,(o_:nu b (n+a.leaves) (m+a.size) p-m-a.size=nu b (n+a.leaves) (m+a.size) p-(m+a.size)),al_ i];exact d
   .rw [<-g];exact⟨fun k=>k.elim (fun k=>absurd k.rg.2 o_) id,.inr⟩
 | star a f=>?_
 | plus a f=>?_
 | opt a f=>?_
 all_goals
  intro n m c p h;obtain⟨T,d,g⟩:=f n m c p h;have i:nu a n m p-m<(nodes a m).length:=(ge_.1 d).1;exact⟨T,by show (nodes a m++_)[nu a n m p-m]?=_;rw[al_ i];exact d,g⟩
end Pu
open Go.RowKit
theorem Tryz.size3 : (prog.info? 3).map (·.size)=some 1:=k_
theorem Tryz.size48 : (prog.info? 48).map (·.size)=some 3:=k_
theorem Tryz.size50 : (prog.info? 50).map (·.size)=some 4:=k_
theorem Tryz.inf3 : (prog.info? 3).map (fun i=>(i.zero,i.size,i.bytes))=some (some (I_ 0),1,8):=k_
structure Stg(w W:W_)(X Y:List V_):Prop where
 box:dh W w.heap.size 42 X
 o:dh W (w.heap.size+1) 42 Y
 qK:B_ w W
 sz:w.heap.size+2<=W.heap.size
theorem Stg.grown{w W d:W_}{X Y:List V_}(s:Stg w W X Y)(c:W.grownBy d none):Stg w d X Y:=by have f:=c.size;have g:=s.sz;exact⟨bR s.box c i_,bR s.o c i_,s.qK.grown c o_ (fun k e=>by cases e),o_⟩
theorem Stg.set{w W:W_}{X Y:List V_}(s:Stg w W X Y){g:Nat}(c:w.heap.size+2<=g)(j:Nat)(u:V_):Stg w (W.setCell (a_ g j) u) X Y:=by refine⟨bU s.box o_ j u,bU s.o o_ j u,s.qK.setCell (by show w.heap.size<=g;omega) u,?_⟩;have:=s.sz;simpa [World.setCell]using this
theorem wV(w:W_)(a:Addr)(u:V_):(w.setCell a u).heap.size=w.heap.size:=by simp[World.setCell]
theorem rJ{xs:List V_}{size:Nat}(d:xs.length=n)(c:j<size):(xs++List.replicate size (I_ 0))[n+j]?=some (I_ 0):=by subst d;rw[ar_ o_];simp[c]
theorem set_tail{xs ys:List V_}{u:V_}(c:xs.length=n):(xs++ys).set (n+j) u=xs++ys.set j u:=by subst c;rw[List.set_append_right _ _ o_];simp
structure agk(w w':W_)(p:lZ)(ge gr gc:Nat):Prop where
 ents:dh w' ge 3 (bY p.ents++[I_ (-5)])
 rules:dh w' gr 48 (dP p.rules++[I_ 0,I_ 0,I_ (-5)])
 code:dh w' gc 50 (dw p.code++[I_ (-5),I_ 0,I_ 0,I_ 0])
 qK:B_ w w'
 e0:w.heap.size<=ge
 aY:w.heap.size<=gr
 c0:w.heap.size<=gc
 er:ge≠gr
 ec:ge≠gc
 rc:gr≠gc
def V9(p:lZ)(w:W_)(e:Ending)(w':W_):Prop:=∃ge d c,e=.returned (.agg #[s_ ge p.ents.length (p.ents.length+1),s_ d p.rules.length (p.rules.length+1),s_ c p.code.length (p.code.length+1)])/\agk w w' p ge d c
theorem Sa(ve vr vc:V_)(p:lZ)(w:W_)(hE:om w ve p.ents)(hR:jX w vr p.rules)(hC:Code w vc p.code)
  (hm:p.ents.length*8<=140737488351232) (hk:p.rules.length*24<=140737488351232) (hn:p.code.length*32<=140737488351232) :
  Calls prog 32 #[.agg #[ve,vr,vc]] w (V9 p w):=by
 obtain⟨i3,hi3,Zx,h31,h32⟩:=ip_ inf3;obtain⟨ir,hir,hr0,hr1,hr2⟩:=ip_ info48;obtain⟨ic,hic,hc0,hc1,hc2⟩:=ip_ info50;obtain⟨Q,G,rfl,he1,he2,-⟩:=hE.read;obtain⟨V,H,rfl,hr1',hr2',-⟩:=hR.read;obtain⟨O,F,rfl,hc1',hc2',-⟩:=hC.read;have HE:=bL hE;have HR:=bL hR;have HC:=bL hC;clear hE hR hC;have d:Stg w ((w.alloc (c_ #[.slice Q p.ents.length G,.slice V p.rules.length H,.slice O p.code.length F] 42)).alloc (c_ #[n_,n_,n_] 42)) [.slice Q p.ents.length G,.slice V p.rules.length H,.slice O p.code.length F] [n_,n_,n_]:=by refine⟨cO (hn_ _ _) _,?_,(kM _).alloc i_ _,i_⟩;have:=hn_ (w.alloc (c_ #[.slice Q p.ents.length G,.slice V p.rules.length H,.slice O p.code.length F] 42)) (c_ #[n_,n_,n_] 42);simp only[wa_]at this;exact this
 have S0:=bL d;clear d;go_in;go_wp2_with (first | (at_make;refine wpList_make_full _ rfl (.tmp 19) (.tmp 19) 31 rfl (w.heap.size+2) 3 i3 (I_ 0) 1 underlying31 hi3 Zx h31 _ _ _ _ (p.ents.length+1) rfl rfl o_ o_ (by rw[h32];omega) (by unfold maxLen;omega) i_ ?_;intro w1 J jR;simp only[wa_]at J;rw[ajY]at J;obtain⟨s,C,f,B⟩:=LP (c:=G) underlying31 size3 J jR i_ (by rw[kY];omega) (aca p.ents) ((HE.o.below S0.o.qK).src rfl);have k0:=bN (j:=0) (S0.o.grown jR).box rfl;have z:=S0.o.grown B;clear J jR B;have k1:=bN (j:=1) z.box rfl;have c1:=bN (j:=p.ents.length) (u:=I_ 0) f (rJ (j:=0) (kY _) o_);have z1:=bM f p.ents.length) | (at_make;refine wpList_make_full _ rfl (.tmp 29) (.tmp 29) 39 rfl (w.heap.size+2) 48 ir (.agg #[I_ 0,I_ 0,I_ 0]) 3 underlying39 hir hr0 hr1 _ _ _ _ (p.rules.length+1) rfl rfl o_ o_ (by rw[hr2];omega) (by unfold maxLen;omega) (by rw[wV];exact z.sz) ?_;intro w2 I W;rw[wV]at I;rw[ajZ]at I;have L:=z.set (g:=w.heap.size+1+1) dF p.ents.length (I_ (-5));obtain⟨i,D,d,y⟩:=LP (c:=H) underlying39 size48 I W i_ (by rw[gY]) (Ye p.rules) ((HR.o.below L.qK).src rfl);have k2:=bN (j:=1) (L.grown W).box rfl;have t:=L.grown y;have Z:=bR (cK f p.ents.length (I_ (-5))) y i_;clear I W y L;have k3:=bN (j:=2) t.box rfl;have c2:i.cell? (a_ s.heap.size (p.rules.length*3))=some (I_ 0):=bN d (rJ (j:=0) (gY _) o_);have X:=bN (u:=I_ 0) d (rJ (j:=1) (gY _) o_);have S:=bN (u:=I_ 0) d (rJ (j:=2) (gY _) o_);have z2:=fun j=>bM d j) | (at_make;refine wpList_make_full _ rfl (.tmp 40) (.tmp 40) 40 rfl (w.heap.size+2) 50 ic (.agg #[I_ 0,I_ 0,I_ 0,I_ 0]) 4 underlying40 hic hc0 hc1 _ _ _ _ (p.code.length+1) rfl rfl o_ o_ (by rw[hc2];omega) (by unfold maxLen;omega) (by rw[wV,wV,wV];exact t.sz) ?_;intro w3 K rQ;rw[wV,wV,wV]at K;rw[aj0]at K;have N:=((t.set (g:=s.heap.size) z.sz (p.rules.length*3) (I_ 0)).set (g:=s.heap.size) z.sz (p.rules.length*3+1) (I_ 0)).set (g:=s.heap.size) z.sz (p.rules.length*3+2) (I_ (-5));obtain⟨x3,U,e,l⟩:=LP (c:=F) underlying40 size50 K rQ i_ (by rw[fT]) (aeR p.code) ((HC.o.below N.qK).src rfl);have k4:=bN (j:=2) (N.grown rQ).box rfl;have s3:=N.grown l;have r:w.heap.size+1+1≠s.heap.size:=(by have:=bP f;omega);have e3:=bR (bU (bU (bU Z r (p.rules.length*3) (I_ 0)) r (p.rules.length*3+1) (I_ 0)) r (p.rules.length*3+2) (I_ (-5))) l i_;have r3:=bR (cK (cK (cK d (p.rules.length*3) (I_ 0)) (p.rules.length*3+1) (I_ 0)) (p.rules.length*3+2) (I_ (-5))) l i_;clear K rQ l N;have c3:x3.cell? (a_ i.heap.size (p.code.length*4))=some (I_ 0):=bN e (rJ (j:=0) (fT _) o_);have Y:=bN (u:=I_ 0) e (rJ (j:=1) (fT _) o_);have T:=bN (u:=I_ 0) e (rJ (j:=2) (fT _) o_);have R:=bN (u:=I_ 0) e (rJ (j:=3) (fT _) o_);have z3:=fun j=>bM e j));have x:=(((s3.set (g:=i.heap.size) t.sz (p.code.length*4) (I_ (-5))).set (g:=i.heap.size) t.sz (p.code.length*4+1) (I_ 0)).set (g:=i.heap.size) t.sz (p.code.length*4+2) (I_ 0)).set (g:=i.heap.size) t.sz (p.code.length*4+3) (I_ 0);have E:w.heap.size+1+1≠i.heap.size:=by have:=bP Z;omega
 have A:s.heap.size≠i.heap.size:=by have:=bP d;omega
 have e4:=bU (bU (bU (bU e3 E (p.code.length*4) (I_ (-5))) E (p.code.length*4+1) (I_ 0)) E (p.code.length*4+2) (I_ 0)) E (p.code.length*4+3) (I_ 0);have r4:=bU (bU (bU (bU r3 A (p.code.length*4) (I_ (-5))) A (p.code.length*4+1) (I_ 0)) A (p.code.length*4+2) (I_ 0)) A (p.code.length*4+3) (I_ 0);have q4:=cK (cK (cK (cK e (p.code.length*4) (I_ (-5))) (p.code.length*4+1) (I_ 0)) (p.code.length*4+2) (I_ 0)) (p.code.length*4+3) (I_ 0);have se:((bY p.ents++List.replicate 1 (I_ 0)).set p.ents.length (I_ (-5)))=bY p.ents++[I_ (-5)]:=set_tail (j:=0) (kY _);have sr:((((dP p.rules++List.replicate 3 (I_ 0)).set (p.rules.length*3) (I_ 0)).set (p.rules.length*3+1) (I_ 0)).set (p.rules.length*3+2) (I_ (-5)))=dP p.rules++[I_ 0,I_ 0,I_ (-5)]:=by rw[show (dP p.rules++List.replicate 3 (I_ 0)).set (p.rules.length*3) (I_ 0)=dP p.rules++(List.replicate 3 (I_ 0)).set 0 (I_ 0) from set_tail (j:=0) (gY _),set_tail (gY _),set_tail (gY _)];rfl
 have sc:(((((dw p.code++List.replicate 4 (I_ 0)).set (p.code.length*4) (I_ (-5))).set (p.code.length*4+1) (I_ 0)).set (p.code.length*4+2) (I_ 0)).set (p.code.length*4+3) (I_ 0))=dw p.code++[I_ (-5),I_ 0,I_ 0,I_ 0]:=by rw[show (dw p.code++List.replicate 4 (I_ 0)).set (p.code.length*4) (I_ (-5))=dw p.code++(List.replicate 4 (I_ 0)).set 0 (I_ (-5)) from set_tail (j:=0) (fT _),set_tail (fT _),set_tail (fT _),set_tail (fT _)];rfl
 rw[se]at e4;rw[sr]at r4;rw[sc]at q4;have hx1:w.heap.size+1+1<s.heap.size:=bP f;have hx2:s.heap.size<i.heap.size:=bP d;generalize (((x3.setCell (a_ i.heap.size (p.code.length*4)) (I_ (-5))).setCell (a_ i.heap.size (p.code.length*4+1)) (I_ 0)).setCell (a_ i.heap.size (p.code.length*4+2)) (I_ 0)).setCell (a_ i.heap.size (p.code.length*4+3)) (I_ 0)=x4 at *;generalize i.heap.size=gc at *;generalize s.heap.size=gr at *;clear se sr sc e3 r3 e d f Z z t s3 k0 k1 k2 k3 k4 c1 c2 X S c3 Y T R z1 z2 z3 C D U S0 HE HR HC r E A;have t:=bQ 0 x.o rfl;have z:=bQ 1 x.o rfl;have A:=bQ 2 x.o rfl;have C:=bM x.o 0;have D:=bM x.o 1;have E:=bM x.o 2;have d:=bL x;have e:=bL e4;have r:=bL r4;have f:=bL q4;clear x e4 r4 q4;go_region;go_wp2;refine br_ (v:=.agg #[s_ (w.heap.size+1+1) p.ents.length (p.ents.length+1),s_ gr p.rules.length (p.rules.length+1),s_ gc p.code.length (p.code.length+1)]) (by simp[results,results32,go_sem,t,z,A]) rfl ⟨_,_,_,rfl,?_⟩;have x:=d.o.sz;refine⟨?_,?_,?_,?_,o_,o_,o_,o_,o_,o_⟩
 .exact bU (bU (bU e.o o_ _ _) o_ _ _) o_ _ _
 .exact bU (bU (bU r.o o_ _ _) o_ _ _) o_ _ _
 .exact bU (bU (bU f.o o_ _ _) o_ _ _) o_ _ _
 .exact (((d.o.qK.setCell (by show w.heap.size<=w.heap.size+1;omega) _).setCell (by show w.heap.size<=w.heap.size+1;omega) _).setCell (by show w.heap.size<=w.heap.size+1;omega) _).drew
end Go.Proofs.YtmccnmgaoppogabGreat
