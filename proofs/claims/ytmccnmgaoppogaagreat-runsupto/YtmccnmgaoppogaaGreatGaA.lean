import Derived.Test.YtmccnmgaoppogaaGreatKad
namespace Go.Proofs.YtmccnmgaoppogaaGreat
open Pu
set_option linter.all false
variable {a b re:aM} {k n p q:Nat} {u w:List Nat} {ls:List aC} {ps:List aJ}
namespace Pu
inductive M:aM->List Nat->Prop where
 | pl {T:Nat->Bool} {c:Nat}:T c=true->M (.pl T) [c]
 | cat {a b:aM} {u v:List Nat}:M a u->M b v->M (.cat a b) (u++v)
 | Gp {a b:aM} {u:List Nat}:M a u->M (.alt a b) u
 | Gq {a b:aM} {u:List Nat}:M b u->M (.alt a b) u
 | sD {a:aM}:M (.star a) []
 | uJ {a:aM} {u v:List Nat}:M a u->M (.star a) v->M (.star a) (u++v)
 | plus {a:aM} {u v:List Nat}:M a u->M (.star a) v->M (.plus a) (u++v)
 | JD {a:aM}:M (.opt a) []
 | JE {a:aM} {u:List Nat}:M a u->M (.opt a) u
def aM.iM:aM->Bool
 | .pl _=>false
 | .cat a b=>a.iM && b.iM
 | .alt a b=>a.iM || b.iM
 | .star _=>true
 | .plus a=>a.iM
 | .opt _=>true
theorem M.iM {re:aM} {w:List Nat} (h:M re w):w=[]->re.iM=true:=by
 induction h with
 | pl _=>intro e;cases e
 | cat _ _ iha ihb=>intro e;obtain⟨h1,h2⟩:=List.append_eq_nil_iff.1 e;simp [aM.iM,iha h1,ihb h2]
 | Gp _ ih=>intro e;simp [aM.iM,ih e]
 | Gq _ ih=>intro e;simp [aM.iM,ih e]
 | sD=>intro _;rfl
 | uJ _ _ _ _=>intro _;rfl
 | plus _ _ ih _=>intro e;exact ih (List.append_eq_nil_iff.1 e).1
 | JD=>intro _;rfl
 | JE _ _=>intro _;rfl
theorem Yq (h:re.iM=true):M re []:=by
 induction re with
 | pl T=>cases h
 | cat a b iha ihb=>simp only [aM.iM,Bool.and_eq_true] at h;exact M.cat (u:=[]) (v:=[]) (iha h.1) (ihb h.2)
 | alt a b iha ihb=>
  simp only [aM.iM,Bool.or_eq_true] at h;rcases h with h | h
  .exact .Gp (iha h)
  .exact .Gq (ihb h)
 | star a _=>exact .sD
 | plus a ih=>exact M.plus (u:=[]) (v:=[]) (ih h) .sD
 | opt a _=>exact .JD
def Fi:aM->Nat->Nat->Prop
 | .pl _,n,p=>p=n
 | .cat a b,n,p=>Fi a n p\/(a.iM=true/\Fi b (n+a.leaves) p)
 | .alt a b,n,p=>Fi a n p\/Fi b (n+a.leaves) p
 | .star a,n,p=>Fi a n p
 | .plus a,n,p=>Fi a n p
 | .opt a,n,p=>Fi a n p
def La:aM->Nat->Nat->Prop
 | .pl _,n,p=>p=n
 | .cat a b,n,p=>La b (n+a.leaves) p\/(b.iM=true/\La a n p)
 | .alt a b,n,p=>La a n p\/La b (n+a.leaves) p
 | .star a,n,p=>La a n p
 | .plus a,n,p=>La a n p
 | .opt a,n,p=>La a n p
def Fo:aM->Nat->Nat->Nat->Prop
 | .pl _,_,_,_=>False
 | .cat a b,n,p,q=>Fo a n p q\/Fo b (n+a.leaves) p q\/(La a n p/\Fi b (n+a.leaves) q)
 | .alt a b,n,p,q=>Fo a n p q\/Fo b (n+a.leaves) p q
 | .star a,n,p,q=>Fo a n p q\/(La a n p/\Fi a n q)
 | .plus a,n,p,q=>Fo a n p q\/(La a n p/\Fi a n q)
 | .opt a,n,p,q=>Fo a n p q
def Tk:aM->Nat->Nat->Nat->Prop
 | .pl T,n,p,c=>p=n/\T c=true
 | .cat a b,n,p,c=>Tk a n p c\/Tk b (n+a.leaves) p c
 | .alt a b,n,p,c=>Tk a n p c\/Tk b (n+a.leaves) p c
 | .star a,n,p,c=>Tk a n p c
 | .plus a,n,p,c=>Tk a n p c
 | .opt a,n,p,c=>Tk a n p c
def Rg (re:aM) (n p:Nat):Prop:=n<=p/\p<n+re.leaves
theorem Fi.rg:∀{n p:Nat},Fi re n p->Rg re n p:=by
 unfold Rg
 induction re with
 | pl T=>intro n p h;simp [Fi,aM.leaves] at *;omega
 | cat a b iha ihb=>
  rintro n p (h | ⟨_,h⟩)
  .have:=iha h;simp [aM.leaves];omega
  .have:=ihb h;simp [aM.leaves];omega
 | alt a b iha ihb=>
  rintro n p (h | h)
  .have:=iha h;simp [aM.leaves];omega
  .have:=ihb h;simp [aM.leaves];omega
 | star a ih=>intro n p h;exact ih h
 | plus a ih=>intro n p h;exact ih h
 | opt a ih=>intro n p h;exact ih h
theorem La.rg:∀{n p:Nat},La re n p->Rg re n p:=by
 unfold Rg
 induction re with
 | pl T=>intro n p h;simp [La,aM.leaves] at *;omega
 | cat a b iha ihb=>
  rintro n p (h | ⟨_,h⟩)
  .have:=ihb h;simp [aM.leaves];omega
  .have:=iha h;simp [aM.leaves];omega
 | alt a b iha ihb=>
  rintro n p (h | h)
  .have:=iha h;simp [aM.leaves];omega
  .have:=ihb h;simp [aM.leaves];omega
 | star a ih=>intro n p h;exact ih h
 | plus a ih=>intro n p h;exact ih h
 | opt a ih=>intro n p h;exact ih h
theorem Fo.rg {re:aM}:∀{n p q:Nat},Fo re n p q->Rg re n p/\Rg re n q:=by
 induction re with
 | pl T=>intro n p q h;exact h.elim
 | cat a b iha ihb=>
  rintro n p q (h | h | ⟨h,h'⟩)
  .have:=iha h;simp [Rg,aM.leaves] at *;omega
  .have:=ihb h;simp [Rg,aM.leaves] at *;omega
  .have:=h.rg;have:=h'.rg;simp [Rg,aM.leaves] at *;omega
 | alt a b iha ihb=>
  rintro n p q (h | h)
  .have:=iha h;simp [Rg,aM.leaves] at *;omega
  .have:=ihb h;simp [Rg,aM.leaves] at *;omega
 | star a ih=>?_
 | plus a ih=>?_
 | opt a ih=>intro n p q h;exact ih h
 all_goals
  rintro n p q (h | ⟨h,h'⟩)
  .exact ih h
  .exact⟨h.rg,h'.rg⟩
theorem Tk.rg:∀{n p c:Nat},Tk re n p c->Rg re n p:=by
 unfold Rg
 induction re with
 | pl T=>intro n p c h;simp [Tk,aM.leaves] at *;omega
 | cat a b iha ihb=>?_
 | alt a b iha ihb=>?_
 | star a ih=>intro n p c h;exact ih h
 | plus a ih=>intro n p c h;exact ih h
 | opt a ih=>intro n p c h;exact ih h
 all_goals
  rintro n p c (h | h)
  .have:=iha h;simp [aM.leaves];omega
  .have:=ihb h;simp [aM.leaves];omega
inductive Pa (re:aM) (n:Nat):Nat->List Nat->Nat->Prop where
 | one {p c:Nat}:Tk re n p c->Pa re n p [c] p
 | cons {p q r c:Nat} {w:List Nat}:Tk re n p c->Fo re n p q->Pa re n q w r->Pa re n p (c::w) r
theorem Pa.lift {m:Nat} (h:Pa a n p w q) (ht:∀p c,Tk a n p c->Tk b m p c) (hf:∀p q,Fo a n p q->Fo b m p q):Pa b m p w q:=by
 induction h with
 | one k=>exact .one (ht _ _ k)
 | cons k k' _ ih=>exact .cons (ht _ _ k) (hf _ _ k') ih
theorem Pa.append {x y:Nat} {v:List Nat} (h:Pa re n p u x) (hf:Fo re n x y) (h':Pa re n y v q):Pa re n p (u++v) q:=by
 induction h with
 | one k=>exact .cons k hf h'
 | cons k k' _ ih=>exact .cons k k' (ih hf)
theorem Pa.ne (h:Pa re n p w q):w≠[]:=by cases h <;> simp
theorem Pa.rg {re:aM} {n p q:Nat} {w:List Nat} (h:Pa re n p w q):Rg re n p/\Rg re n q:=by
 induction h with
 | one k=>exact⟨k.rg,k.rg⟩
 | cons k _ _ ih=>exact⟨k.rg,ih.2⟩
def Acc (re:aM) (n:Nat) (w:List Nat):Prop:=∃p q,Fi re n p/\La re n q/\Pa re n p w q
theorem XV (h:Acc a n u) (hb:b.iM=true):Acc (.cat a b) n u:=by obtain⟨p,q,h1,h2,h3⟩:=h;exact⟨p,q,.inl h1,.inr ⟨hb,h2⟩,h3.lift (fun _ _ k=>.inl k) (fun _ _ k=>.inl k)⟩
theorem XW (h:Acc b (n+a.leaves) u) (ha:a.iM=true):Acc (.cat a b) n u:=by obtain⟨p,q,h1,h2,h3⟩:=h;exact⟨p,q,.inr ⟨ha,h1⟩,.inl h2,h3.lift (fun _ _ k=>.inr k) (fun _ _ k=>.inr (.inl k))⟩
theorem abn {v:List Nat} (h:Acc a n u) (h':Acc b (n+a.leaves) v):Acc (.cat a b) n (u++v):=by obtain⟨p,q,h1,h2,h3⟩:=h;obtain⟨p',q',k1,k2,k3⟩:=h';exact⟨p,q',.inl h1,.inl k2,(h3.lift (b:=.cat a b) (m:=n) (fun _ _ k=>.inl k) (fun _ _ k=>.inl k)).append (.inr (.inr ⟨h2,k1⟩)) (k3.lift (fun _ _ k=>.inr k) (fun _ _ k=>.inr (.inl k)))⟩
theorem Hg (h:Acc a n u):Acc (.star a) n u:=by obtain⟨p,q,h1,h2,h3⟩:=h;exact⟨p,q,h1,h2,h3.lift (fun _ _ k=>k) (fun _ _ k=>.inl k)⟩
theorem Hl {v:List Nat} (h:Acc a n u) (h':Acc (.star a) n v):Acc (.star a) n (u++v):=by obtain⟨p,q,h1,h2,h3⟩:=h;obtain⟨p',q',k1,k2,k3⟩:=h';exact⟨p,q',h1,k2,(h3.lift (b:=.star a) (m:=n) (fun _ _ k=>k) (fun _ _ k=>.inl k)).append (.inr ⟨h2,k1⟩) k3⟩
theorem M.acc (h:M re w):∀n,w≠[]->Acc re n w:=by
 induction h with
 | pl h=>intro n _;exact⟨n,n,rfl,rfl,.one ⟨rfl,h⟩⟩
 | @cat a b u v h1 h2 iha ihb=>
  intro n hn;by_cases hu:u=[]
  .subst hu;exact XW (ihb _ hn) (h1.iM rfl)
  .by_cases hv:v=[]
   .subst hv;rw [List.append_nil];exact XV (iha _ hu) (h2.iM rfl)
   .exact abn (iha _ hu) (ihb _ hv)
 | Gp _ ih=>intro n hn;obtain⟨p,q,h1,h2,h3⟩:=ih n hn;exact⟨p,q,.inl h1,.inl h2,h3.lift (fun _ _ k=>.inl k) (fun _ _ k=>.inl k)⟩
 | @Gq a b u _ ih=>intro n hn;obtain⟨p,q,h1,h2,h3⟩:=ih (n+a.leaves) hn;exact⟨p,q,.inr h1,.inr h2,h3.lift (fun _ _ k=>.inr k) (fun _ _ k=>.inr k)⟩
 | sD=>intro n hn;exact absurd rfl hn
 | @uJ a u v h1 h2 iha ihb=>
  intro n hn;by_cases hu:u=[]
  .subst hu;exact ihb _ hn
  .by_cases hv:v=[]
   .subst hv;rw [List.append_nil];exact Hg (iha _ hu)
   .exact Hl (iha _ hu) (ihb _ hv)
 | @plus a u v h1 h2 iha ihb=>
  intro n hn
  have key:Acc (.star a) n (u++v):=by
   by_cases hu:u=[]
   .subst hu;exact ihb _ hn
   .by_cases hv:v=[]
    .subst hv;rw [List.append_nil];exact Hg (iha _ hu)
    .exact Hl (iha _ hu) (ihb _ hv)
  obtain⟨p,q,k1,k2,k3⟩:=key;exact⟨p,q,k1,k2,k3.lift (fun _ _ k=>k) (fun _ _ k=>k)⟩
 | JD=>intro n hn;exact absurd rfl hn
 | JE _ ih=>intro n hn;obtain⟨p,q,h1,h2,h3⟩:=ih n hn;exact⟨p,q,h1,h2,h3.lift (fun _ _ k=>k) (fun _ _ k=>k)⟩
theorem Hw (h:Pa (.cat a b) n p w q) :
  (Rg a n p->Pa a n p w q\/∃u v x y,w=u++v/\Pa a n p u x/\La a n x/\Fi b (n+a.leaves) y/\Pa b (n+a.leaves) y v q)/\(Rg b (n+a.leaves) p->Pa b (n+a.leaves) p w q):=by
 induction h with
 | @one p c k=>
  refine⟨fun hr=>?_,fun hr=>?_⟩
  .rcases k with k | k
   .exact .inl (.one k)
   .have:=k.rg;unfold Rg at *;omega
  .rcases k with k | k
   .have:=k.rg;unfold Rg at *;omega
   .exact .one k
 | @cons p p' r c w k f _ ih=>
  refine⟨fun hr=>?_,fun hr=>?_⟩
  .have k':Tk a n p c:=by
    rcases k with k | k
    .exact k
    .have:=k.rg;unfold Rg at *;omega
   rcases f with f | f | ⟨f,g⟩
   .rcases ih.1 f.rg.2 with z | ⟨u,v,x,y,rfl,z1,z2⟩
    .exact .inl (.cons k' f z)
    .exact .inr ⟨c::u,v,x,y,rfl,.cons k' f z1,z2⟩
   .have:=f.rg;unfold Rg at *;omega
   .exact .inr ⟨[c],w,p,p',rfl,.one k',f,g,ih.2 g.rg⟩
  .have k':Tk b (n+a.leaves) p c:=by
    rcases k with k | k
    .have:=k.rg;unfold Rg at *;omega
    .exact k
   rcases f with f | f | ⟨f,g⟩
   .have:=f.rg;unfold Rg at *;omega
   .exact .cons k' f (ih.2 f.rg.2)
   .have:=f.rg;unfold Rg at *;omega
theorem Hq (h:Pa (.alt a b) n p w q):(Rg a n p->Pa a n p w q)/\(Rg b (n+a.leaves) p->Pa b (n+a.leaves) p w q):=by
 induction h with
 | @one p c k=>
  refine⟨fun hr=>?_,fun hr=>?_⟩
  .rcases k with k | k
   .exact .one k
   .have:=k.rg;unfold Rg at *;omega
  .rcases k with k | k
   .have:=k.rg;unfold Rg at *;omega
   .exact .one k
 | @cons p p' r c w k f _ ih=>
  refine⟨fun hr=>?_,fun hr=>?_⟩
  .rcases k with k | k
   .rcases f with f | f
    .exact .cons k f (ih.1 f.rg.2)
    .have:=f.rg;unfold Rg at *;omega
   .have:=k.rg;unfold Rg at *;omega
  .rcases k with k | k
   .have:=k.rg;unfold Rg at *;omega
   .rcases f with f | f
    .have:=f.rg;unfold Rg at *;omega
    .exact .cons k f (ih.2 f.rg.2)
theorem QX (h:Pa (.star a) n p w q):Pa a n p w q\/∃u v x y,w=u++v/\Pa a n p u x/\La a n x/\Fi a n y/\Pa (.star a) n y v q:=by
 induction h with
 | one k=>exact .inl (.one k)
 | @cons p p' r c w k f g ih=>
  rcases f with f | ⟨f,f'⟩
  .rcases ih with z | ⟨u,v,x,y,rfl,z1,z2⟩
   .exact .inl (.cons k f z)
   .exact .inr ⟨c::u,v,x,y,rfl,.cons k f z1,z2⟩
  .exact .inr ⟨[c],w,p,p',rfl,.one k,f,f',g⟩
theorem aaj (ih:∀w,Acc a n w->M a w):∀(k:Nat) (w:List Nat) (p q:Nat),w.length<=k->Fi a n p->La a n q->Pa (.star a) n p w q->∃u v,w=u++v/\M a u/\M (.star a) v:=by
 intro k
 induction k with
 | zero=>intro w p q hk _ _ h;exact absurd (List.eq_nil_of_length_eq_zero (by omega)) h.ne
 | succ k ihk=>
  intro w p q hk hp hq h;rcases QX h with z | ⟨u,v,x,y,rfl,z1,z2,z3,z4⟩
  .exact⟨w,[],(List.append_nil _).symm,ih w ⟨p,q,hp,hq,z⟩,.sD⟩
  .have hu:=z1.ne;have hl:0<u.length:=List.length_pos_iff.2 hu;rw [la_] at hk;obtain⟨u',v',rfl,m1,m2⟩:=ihk v y q (by omega) z3 hq z4;exact⟨u,u'++v',rfl,ih u ⟨p,x,hp,z2,z1⟩,.uJ m1 m2⟩
theorem Acc.m:∀{n:Nat} {w:List Nat},Acc re n w->M re w:=by
 induction re with
 | pl T=>?_
 | cat a b iha ihb=>?_
 | alt a b iha ihb=>?_
 | star a ih=>?_
 | plus a ih=>?_
 | opt a ih=>?_
 all_goals
  rintro n w ⟨p,q,h1,h2,h3⟩
 .cases h3 with
  | one k=>exact .pl k.2
  | cons _ f _=>exact f.elim
 .rcases h1 with h1 | ⟨he,h1⟩
  .rcases (Hw h3).1 h1.rg with z | ⟨u,v,x,y,rfl,z1,z2,z3,z4⟩
   .rcases h2 with h2 | ⟨hb,h2⟩
    .have:=h2.rg;have:=z.rg;unfold Rg at *;omega
    .have:=M.cat (iha ⟨p,q,h1,h2,z⟩) (Yq hb);rwa [List.append_nil] at this
   .rcases h2 with h2 | ⟨hb,h2⟩
    .exact .cat (iha ⟨p,x,h1,z2,z1⟩) (ihb ⟨y,q,z3,h2,z4⟩)
    .have:=h2.rg;have:=z4.rg;unfold Rg at *;omega
  .have z:=(Hw h3).2 h1.rg;rcases h2 with h2 | ⟨hb,h2⟩
   .exact M.cat (u:=[]) (Yq he) (ihb ⟨p,q,h1,h2,z⟩)
   .have:=h2.rg;have:=z.rg;unfold Rg at *;omega
 .rcases h1 with h1 | h1
  .have z:=(Hq h3).1 h1.rg;rcases h2 with h2 | h2
   .exact .Gp (iha ⟨p,q,h1,h2,z⟩)
   .have:=h2.rg;have:=z.rg;unfold Rg at *;omega
  .have z:=(Hq h3).2 h1.rg;rcases h2 with h2 | h2
   .have:=h2.rg;have:=z.rg;unfold Rg at *;omega
   .exact .Gq (ihb ⟨p,q,h1,h2,z⟩)
 .obtain⟨u,v,rfl,m1,m2⟩:=aaj (fun w h=>ih h) w.length w p q di h1 h2 h3;exact .uJ m1 m2
 .obtain⟨u,v,rfl,m1,m2⟩:=aaj (fun w h=>ih h) w.length w p q di h1 h2 (h3.lift (fun _ _ k=>k) (fun _ _ k=>k));exact .plus m1 m2
 .exact .JE (ih ⟨p,q,h1,h2,h3.lift (fun _ _ k=>k) (fun _ _ k=>k)⟩)
theorem afR (re:aM) (n:Nat) (hw:w≠[]):M re w↔Acc re n w:=⟨fun h=>h.acc n hw,Acc.m⟩
theorem MH (bG:List Nat) (q p:Nat):∀(fr:List Nat) (ps:List aJ),q∈nx (leads fr bG ps) p↔q∈nx ps p\/(p∈fr/\p<ps.length/\q∈bG):=by
 intro fr
 induction fr with
 | nil=>intro ps;simp [leads]
 | cons x fr ih=>
  intro ps;have e:leads (x::fr) bG ps=leads fr bG (vD bG ps x):=rfl;rw [e,ih,qP]
  have h1:q∈nx (vD bG ps x) p↔q∈nx ps p\/(x=p/\p<ps.length/\q∈bG):=by
   unfold nx;rw [AL]
   cases hp:ps[p]? with
   | none=>have:=List.getElem?_eq_none_iff.1 hp;simp only [Option.map_none,List.not_mem_nil,false_or,false_iff];omega
   | some y=>
    have hl:p<ps.length:=(ge_.1 hp).1;simp only [Option.map_some];split
    .rename_i hx
     simp only [sI,hx,hl,true_and]
    .rename_i hx
     simp [hx]
  rw [h1,mm_];constructor
  .rintro ((h | ⟨h,h',h''⟩) | ⟨h,h',h''⟩)
   .exact .inl h
   .exact .inr ⟨.inl h.symm,h',h''⟩
   .exact .inr ⟨.inr h,h',h''⟩
  .rintro (h | ⟨h | h,h',h''⟩)
   .exact .inl (.inl h)
   .exact .inl (.inr ⟨h.symm,h',h''⟩)
   .exact .inr ⟨h,h',h''⟩
theorem MJ (bG:List Nat) (p c:Nat):∀(fr:List Nat) (ps:List aJ),aZ (leads fr bG ps) p c=aZ ps p c:=by
 intro fr
 induction fr with
 | nil=>intro ps;rfl
 | cons x fr ih=>
  intro ps;have e:leads (x::fr) bG ps=leads fr bG (vD bG ps x):=rfl;rw [e,ih];unfold aZ;rw [AL]
  cases hp:ps[p]? with
  | none=>rfl
  | some y=>simp only [Option.map_some];split <;> rfl
theorem Bd (re:aM):∀ps,(part re ps).1.empty=re.iM:=by
 induction re with
 | pl T=>intro ps;rfl
 | cat a b iha ihb=>intro ps;show (_ && _)=_;rw [iha,ihb];rfl
 | alt a b iha ihb=>intro ps;show (_ || _)=_;rw [iha,ihb];rfl
 | star a ih=>intro ps;show (_ || _)=_;rw [ih];simp [aM.iM]
 | plus a ih=>intro ps;show (_ || _)=_;rw [ih];simp [aM.iM]
 | opt a ih=>intro ps;show (_ || _)=_;rw [ih];simp [aM.iM]
structure Net (re:aM) (ps:List aJ) (r:aK × List aJ):Prop where
 fi:∀p,p∈r.1.first↔Fi re ps.length p
 la:∀p,p∈r.1.last↔La re ps.length p
 fo:∀p q,q∈nx r.2 p↔q∈nx ps p\/Fo re ps.length p q
 aZ:∀p c,Pu.aZ r.2 p c=true↔Pu.aZ ps p c=true\/Tk re ps.length p c
theorem ZP (re:aM):∀ps,Net re ps (part re ps):=by
 induction re with
 | pl T=>
  intro ps
  have hnew:∀p,(ps++[(⟨T,[]⟩:aJ)])[p]?=if p=ps.length then some ⟨T,[]⟩ else ps[p]?:=by
   intro p;rw [List.getElem?_append];split
   .rw [if_neg (by omega)]
   .split
    .rename_i h
     subst h;simp
    .rw [gn_ (by simp;omega),gn_ (by omega)]
  refine⟨fun p=>by simp [part,vQ,Fi],fun p=>by simp [part,vQ,La],fun p q=>?_,fun p c=>?_⟩
  .show q∈nx (ps++[⟨T,[]⟩]) p↔_;unfold nx;rw [hnew];split
   .rename_i h
    split at h
    .rename_i e
     cases h
     subst e;simp [Fo]
    .rw [h];simp [Fo]
   .rename_i h
    split at h
    .cases h
    .rw [h];simp [Fo]
  .show Pu.aZ (ps++[⟨T,[]⟩]) p c=true↔_;unfold Pu.aZ;rw [hnew];by_cases e:p=ps.length
   .subst e;simp [Tk]
   .rw [if_neg e];simp [Tk,e]
 | cat a b iha ihb=>
  intro ps;have ka:=iha ps;have kb:=ihb (part a ps).2;have la:=gL a ps;have lb:=gL b (part a ps).2;have ea:=Bd a ps;have eb:=Bd b (part a ps).2;obtain⟨kf,kl,ko,kt⟩:=kb;rw [la] at kf kl ko kt;refine⟨fun p=>?_,fun p=>?_,fun p q=>?_,fun p c=>?_⟩
  .show p∈(if (part a ps).1.empty=true then _ else _)↔_;rw [ea];split
   .rename_i h
    rw [sI,ka.fi,kf];simp [Fi,h]
   .rename_i h
    rw [ka.fi];simp [Fi,h]
  .show p∈(if (part b _).1.empty=true then _ else _)↔_;rw [eb];split
   .rename_i h
    rw [sI,ka.la,kl];simp only [La,h,true_and];exact Or.comm
   .rename_i h
    rw [kl];simp [La,h]
  .show q∈nx (leads _ _ _) p↔_;rw [MH,ko,ka.fo,ka.la,kf,lb,la];simp only [Fo];constructor
   .rintro (((h | h) | h) | ⟨h1,_,h2⟩)
    .exact .inl h
    .exact .inr (.inl h)
    .exact .inr (.inr (.inl h))
    .exact .inr (.inr (.inr ⟨h1,h2⟩))
   .rintro (h | h | h | ⟨h1,h2⟩)
    .exact .inl (.inl (.inl h))
    .exact .inl (.inl (.inr h))
    .exact .inl (.inr h)
    .have:=h1.rg;exact .inr ⟨h1,by unfold Rg at this;omega,h2⟩
  .show Pu.aZ (leads _ _ _) p c=true↔_;rw [MJ,kt,ka.aZ];simp only [Tk];exact or_assoc
 | alt a b iha ihb=>
  intro ps;have ka:=iha ps;have kb:=ihb (part a ps).2;have la:=gL a ps;obtain⟨kf,kl,ko,kt⟩:=kb;rw [la] at kf kl ko kt;refine⟨fun p=>?_,fun p=>?_,fun p q=>?_,fun p c=>?_⟩
  .show p∈un _ _↔_;rw [sI,ka.fi,kf];rfl
  .show p∈un _ _↔_;rw [sI,ka.la,kl];rfl
  .show q∈nx (part b _).2 p↔_;rw [ko,ka.fo];simp only [Fo];exact or_assoc
  .show Pu.aZ (part b _).2 p c=true↔_;rw [kt,ka.aZ];simp only [Tk];exact or_assoc
 | star a ih=>?_
 | plus a ih=>?_
 | opt a ih=>intro ps;have ka:=ih ps;exact⟨ka.fi,ka.la,ka.fo,ka.aZ⟩
 all_goals
  intro ps;have ka:=ih ps;have la:=gL a ps;refine⟨ka.fi,ka.la,fun p q=>?_,fun p c=>?_⟩
  .show q∈nx (leads _ _ _) p↔_;rw [MH,ka.fo,ka.la,ka.fi,la];simp only [Fo];constructor
   .rintro ((h | h) | ⟨h1,_,h2⟩)
    .exact .inl h
    .exact .inr (.inl h)
    .exact .inr (.inr ⟨h1,h2⟩)
   .rintro (h | h | ⟨h1,h2⟩)
    .exact .inl (.inl h)
    .exact .inl (.inr h)
    .exact .inr ⟨h1,h1.rg.2,h2⟩
  .show Pu.aZ (leads _ _ _) p c=true↔_;rw [MJ,ka.aZ];rfl
end Pu
namespace Pu
def base (ls:List aC):Nat:=(ls.map (fun x=>x.re.leaves)).sum
theorem qC (a b:List aC):base (a++b)=base a+base b:=by simp [base]
theorem Dz (x:aC):base [x]=x.re.leaves:=by simp [base]
theorem Jc (ls:List aC) (k:Nat):base (ls.take k)<=base ls:=by have:=qC (ls.take k) (ls.drop k);rw [List.take_append_drop] at this;omega
theorem wH {x:aC} (h:ls[k]?=some x):base (ls.take (k+1))=base (ls.take k)+x.re.leaves:=by rw [List.take_add_one,h,qC];simp [base]
theorem wG (ls:List aC) {j:Nat} (h:j<=k):base (ls.take j)<=base (ls.take k):=by have:=Jc (ls.take k) j;rwa [List.take_take,Nat.min_eq_left h] at this
theorem tu {j:Nat} {x y:aC} (hj:ls[j]?=some x) (hk:ls[k]?=some y) (h1:Rg x.re (base (ls.take j)) p) (h2:Rg y.re (base (ls.take k)) p):j=k:=by
 unfold Rg at h1 h2;rcases Nat.lt_trichotomy j k with h | h | h
 .have:=wG ls (show j+1<=k from h);rw [wH hj] at this;omega
 .exact h
 .have:=wG ls (show k+1<=j from h);rw [wH hk] at this;omega
structure Br (ls:List aC) (q:List aD × List aJ):Prop where
 len:q.2.length=base ls
 ok:iU q.2
 n:q.1.length=ls.length
 get:∀k x,ls[k]?=some x->∃pt,q.1[k]?=some (x.lp pt)/\(∀p,p∈pt.first↔Fi x.re (base (ls.take k)) p)/\(∀p,p∈pt.last↔La x.re (base (ls.take k)) p)/\mI (base ls) pt/\pt.empty=x.re.iM
 fo:∀p q',q'∈nx q.2 p↔∃k x,ls[k]?=some x/\Fo x.re (base (ls.take k)) p q'
 aZ:∀p c,Pu.aZ q.2 p c=true↔∃k x,ls[k]?=some x/\Tk x.re (base (ls.take k)) p c
theorem sw {α:Type} {l:List α} {x y:α} (h:(l++[x])[k]?=some y):(k<l.length/\l[k]?=some y)\/(k=l.length/\y=x):=by
 rw [List.getElem?_append] at h;split at h
 .exact .inl ⟨by assumption,h⟩
 .rw [List.getElem?_singleton] at h;split at h
  .cases h
   exact .inr ⟨by omega,rfl⟩
  .cases h
theorem Br.add {q:List aD × List aJ} (h:Br ls q) (x:aC):Br (ls++[x]) (Bw q x):=by
 have net:=ZP x.re q.2;have Kr:=zN x.re q.2 h.ok;have yK:=gL x.re q.2;rw [h.len] at yK;have hb:base (ls++[x])=base ls+x.re.leaves:=by rw [qC,Dz]
 have tk1:∀{k:Nat},k<=ls.length->(ls++[x]).take k=ls.take k:=fun hk=>List.take_append_of_le_length hk
 have bk:base ((ls++[x]).take ls.length)=base ls:=by rw [tk1 di,List.take_length]
 refine⟨by rw [hb];exact yK,Kr.2,by simp [Bw,h.n],fun k y hk=>?_,fun p q'=>?_,fun p c=>?_⟩
 .rcases sw hk with ⟨hl,hk'⟩ | ⟨rfl,rfl⟩
  .obtain⟨pt,h1,h2,h3,h4,h5⟩:=h.get k y hk';rw [tk1 (by omega)];refine⟨pt,?_,h2,h3,h4.mono (by omega),h5⟩;show (q.1++_)[k]?=_;rw [al_ (by rw [h.n];exact hl)];exact h1
  .rw [bk];refine⟨(part y.re q.2).1,?_,?_,?_,?_,Bd _ _⟩
   .show (q.1++_)[ls.length]?=_;rw [<-h.n];simp
   .intro p;rw [<-h.len];exact net.fi p
   .intro p;rw [<-h.len];exact net.la p
   .rw [hb,<-yK];exact Kr.1
 focus
  show q'∈nx (part x.re q.2).2 p↔_;rw [net.fo,h.fo,h.len]
 rotate_left
 focus
  show Pu.aZ (part x.re q.2).2 p c=true↔_;rw [net.aZ,h.aZ,h.len]
 all_goals
  constructor
  .rintro (⟨k,y,hk,hf⟩ | hf)
   .have hl:k<ls.length:=(ge_.1 hk).1;exact⟨k,y,by rw [al_ hl];exact hk,by rw [tk1 (by omega)];exact hf⟩
   .exact⟨ls.length,x,by simp,by rw [bk];exact hf⟩
  .rintro ⟨k,y,hk,hf⟩;rcases sw hk with ⟨hl,hk'⟩ | ⟨rfl,rfl⟩
   .rw [tk1 (by omega)] at hf;exact .inl ⟨k,y,hk',hf⟩
   .rw [bk] at hf;exact .inr hf
theorem acb:Br [] (([],[]):List aD × List aJ):=
 ⟨rfl,fun p hp=>by simp at hp,rfl,fun k x h=>by simp at h,fun p q=>by simp [nx],fun p c=>by simp [Pu.aZ]⟩
theorem Zn (r:List aC):∀(ls:List aC) (q:List aD × List aJ),Br ls q->Br (ls++r) (r.foldl Bw q):=by
 induction r with
 | nil=>intro ls q h;simpa using h
 | cons x r ih=>intro ls q h;have:=ih _ _ (h.add x);simpa using this
theorem iV (ls:List aC):Br ls (cB ls):=by simpa [cB] using Zn ls [] ([],[]) acb
theorem kP (ps:List aJ) (ready:List Nat) (c p:Nat):p∈taking ps ready c↔p∈ready/\aZ ps p c=true:=by simp [taking]
theorem rU (ps:List aJ) (q:Nat) (S:List Nat):q∈ji ps S↔∃p,p∈S/\q∈nx ps p:=by
 have key:∀(S acc:List Nat),q∈S.foldl (fun acc p=>un acc (nx ps p)) acc↔q∈acc\/∃p,p∈S/\q∈nx ps p:=by
  intro S
  induction S with
  | nil=>intro acc;simp
  | cons x S ih=>
   intro acc;rw [List.foldl_cons,ih,sI];constructor
   .rintro ((h | h) | ⟨p,h1,h2⟩)
    .exact .inl h
    .exact .inr ⟨x,ms_ ..,h⟩
    .exact .inr ⟨p,mc_ _ h1,h2⟩
   .rintro (h | ⟨p,h1,h2⟩)
    .exact .inl (.inl h)
    .rcases mm_.1 h1 with rfl | h1
     .exact .inl (.inr h2)
     .exact .inr ⟨p,h1,h2⟩
 unfold ji;rw [key];simp
theorem AV (mode:Int) (p:Nat) (ls:List aD):p∈jG ls mode↔∃x,x∈ls/\x.mode=mode/\p∈x.pt.first:=by
 have key:∀(ls:List aD) (acc:List Nat),p∈ls.foldl (fun acc x=>if x.mode=mode then un acc x.pt.first else acc) acc↔p∈acc\/∃x,x∈ls/\x.mode=mode/\p∈x.pt.first:=by
  intro ls
  induction ls with
  | nil=>intro acc;simp
  | cons x ls ih=>
   intro acc;rw [List.foldl_cons,ih];split
   .rename_i hm
    rw [sI];constructor
    .rintro ((h | h) | ⟨y,h1,h2⟩)
     .exact .inl h
     .exact .inr ⟨x,ms_ ..,hm,h⟩
     .exact .inr ⟨y,mc_ _ h1,h2⟩
    .rintro (h | ⟨y,h1,h2⟩)
     .exact .inl (.inl h)
     .rcases mm_.1 h1 with rfl | h1
      .exact .inl (.inr h2.2)
      .exact .inr ⟨y,h1,h2⟩
   .rename_i hm
    constructor
    .rintro (h | ⟨y,h1,h2⟩)
     .exact .inl h
     .exact .inr ⟨y,mc_ _ h1,h2⟩
    .rintro (h | ⟨y,h1,h2⟩)
     .exact .inl h
     .rcases mm_.1 h1 with rfl | h1
      .exact absurd h2.1 hm
      .exact .inr ⟨y,h1,h2⟩
 unfold jG;rw [key];simp
def goW (ps:List aJ):List Nat->List Nat->List Nat
 | S,[]=>S
 | S,c::w=>goW ps (taking ps (ji ps S) c) w
def Fw (q:List aD × List aJ) (mode:Int):List Nat->List Nat
 | []=>[]
 | c::w=>goW q.2 (taking q.2 (jG q.1 mode) c) w
inductive Tp (re:aM) (n:Nat):Nat->List Nat->Nat->Prop where
 | nil {p:Nat}:Tp re n p [] p
 | cons {p q r c:Nat} {w:List Nat}:Fo re n p q->Tk re n q c->Tp re n q w r->Tp re n p (c::w) r
theorem Pa.tp {r:Nat} (h:Pa re n p w r):∃c v,w=c::v/\Tk re n p c/\Tp re n p v r:=by
 induction h with
 | one k=>exact⟨_,_,rfl,k,.nil⟩
 | cons k f _ ih=>obtain⟨c,v,rfl,h1,h2⟩:=ih;exact⟨_,_,rfl,k,.cons f h1 h2⟩
theorem Tp.pa {re:aM} {n p r c:Nat} {w:List Nat} (h:Tp re n p w r) (hk:Tk re n p c):Pa re n p (c::w) r:=by
 induction h generalizing c with
 | nil=>exact .one hk
 | cons f k _ ih=>exact .cons hk f (ih k)
theorem adC {r c:Nat}:Pa re n p (c::w) r↔Tk re n p c/\Tp re n p w r:=by
 constructor
 .intro h;obtain⟨c',v,e,h1,h2⟩:=h.tp;cases e;exact⟨h1,h2⟩
 .exact fun h=>h.2.pa h.1
section
variable {ls:List aC} {q:List aD × List aJ}
theorem ach (h:Br ls q) (r:Nat):∀(w S:List Nat),(∀p∈S,∃k x,ls[k]?=some x/\Rg x.re (base (ls.take k)) p)->
  (r∈goW q.2 S w↔∃p,p∈S/\∃k x,ls[k]?=some x/\Rg x.re (base (ls.take k)) p/\Tp x.re (base (ls.take k)) p w r):=by
 intro w
 induction w with
 | nil=>
  intro S hS;constructor
  .intro hr;obtain⟨k,x,hk,hg⟩:=hS r hr;exact⟨r,hr,k,x,hk,hg,.nil⟩
  .rintro ⟨p,hp,k,x,hk,hg,ht⟩;cases ht
   exact hp
 | cons c w ih=>
  intro S hS;show r∈goW q.2 (taking q.2 (ji q.2 S) c) w↔_;rw [ih]
  .constructor
   .rintro ⟨p',hp',k,x,hk,hg,ht⟩;rw [kP,rU,h.aZ] at hp';obtain⟨⟨p,hp,hf⟩,j,y,hj,htk⟩:=hp';rw [h.fo] at hf;obtain⟨i,z,hi,hf⟩:=hf;have e1:=tu hj hk htk.rg hg;subst e1;have e2:=tu hi hk hf.rg.2 hg;subst e2;rw [hk] at hj hi;cases hj;cases hi;exact⟨p,hp,i,x,hk,hf.rg.1,.cons hf htk ht⟩
   .rintro ⟨p,hp,k,x,hk,hg,ht⟩
    cases ht with
    | @cons _ p' _ _ _ hf htk ht=>refine⟨p',?_,k,x,hk,hf.rg.2,ht⟩;rw [kP,rU,h.aZ];exact⟨⟨p,hp,(h.fo _ _).2 ⟨k,x,hk,hf⟩⟩,k,x,hk,htk⟩
  .intro p hp;rw [kP,h.aZ] at hp;obtain⟨_,k,x,hk,ht⟩:=hp;exact⟨k,x,hk,ht.rg⟩
theorem Nc (h:Br ls q) (mode:Int) (w:List Nat) (hw:w≠[]) (r:Nat) :
  r∈Fw q mode w↔∃k x,ls[k]?=some x/\x.mode=mode/\∃p,Fi x.re (base (ls.take k)) p/\Pa x.re (base (ls.take k)) p w r:=by
 cases w with
 | nil=>exact absurd rfl hw
 | cons c w=>
  show r∈goW q.2 (taking q.2 (jG q.1 mode) c) w↔_;rw [ach h]
  .constructor
   .rintro ⟨p,hp,k,x,hk,hg,ht⟩;rw [kP,AV,h.aZ] at hp;obtain⟨⟨y,hy,hm,hf⟩,j,z,hj,htk⟩:=hp;obtain⟨i,hi⟩:=gf_ hy;have hil:i<ls.length:=by rw [<-h.n];exact (ge_.1 hi).1
    obtain⟨u,hu⟩:=qG ls i hil;obtain⟨pt,g1,g2,-⟩:=h.get i u hu;rw [hi] at g1;cases g1;have hf':=(g2 p).1 hf;have e1:=tu hj hk htk.rg hg;subst e1;have e2:=tu hu hk hf'.rg hg;subst e2;rw [hk] at hj hu;cases hj;cases hu;exact⟨i,x,hk,hm,p,hf',adC.2 ⟨htk,ht⟩⟩
   .rintro ⟨k,x,hk,hm,p,hf,hp⟩;obtain⟨htk,ht⟩:=adC.1 hp;refine⟨p,?_,k,x,hk,hf.rg,ht⟩;obtain⟨pt,g1,g2,-⟩:=h.get k x hk;rw [kP,AV,h.aZ];exact⟨⟨x.lp pt,mg_ g1,hm,(g2 p).2 hf⟩,k,x,hk,htk⟩
  .intro p hp;rw [kP,h.aZ] at hp;obtain⟨_,k,x,hk,ht⟩:=hp;exact⟨k,x,hk,ht.rg⟩
theorem Wh (h:Br ls q) (mode:Int) (w:List Nat) (hw:w≠[]) {k:Nat} {x:aC} (hk:ls[k]?=some x) :
  (∃p,p∈Fw q mode w/\La x.re (base (ls.take k)) p)↔x.mode=mode/\M x.re w:=by
 rw [afR x.re (base (ls.take k)) hw];constructor
 .rintro ⟨p,hp,hl⟩;rw [Nc h mode w hw] at hp;obtain⟨j,y,hj,hm,p0,hf,hpa⟩:=hp;have e:=tu hj hk hpa.rg.2 hl.rg;subst e;rw [hk] at hj;cases hj;exact⟨hm,p0,p,hf,hl,hpa⟩
 .rintro ⟨hm,p0,p,hf,hl,hpa⟩;exact⟨p,(Nc h mode w hw p).2 ⟨k,x,hk,hm,p0,hf,hpa⟩,hl⟩
theorem Ef {l:List Nat} (f:Nat->Bool) (h:Kv l):Kv (l.filter f):=List.Pairwise.filter f h
theorem xG {ls:List aD} (mode:Int) (h:∀x∈ls,mI n x.pt):sJ n (jG ls mode):=by
 have key:∀(ls:List aD) (acc:List Nat),(∀x∈ls,mI n x.pt)->sJ n acc->sJ n (ls.foldl (fun acc x=>if x.mode=mode then un acc x.pt.first else acc) acc):=by
  intro ls
  induction ls with
  | nil=>intro acc _ h;exact h
  | cons x ls ih=>
   intro acc h ha;refine ih _ (fun y hy=>h y (mc_ _ hy)) ?_
   show sJ n (if x.mode=mode then un acc x.pt.first else acc);split
   .exact ha.un (h x (ms_ ..)).1
   .exact ha
 exact key ls [] h (.nil _)
theorem aeN (h:iU ps) (p:Nat):sJ ps.length (nx ps p):=by
 unfold nx;split
 .rename_i x hx
  exact h x (mg_ hx)
 .exact .nil _
theorem uN (h:iU ps) (S:List Nat):sJ ps.length (ji ps S):=by
 have key:∀(S acc:List Nat),sJ ps.length acc->sJ ps.length (S.foldl (fun acc p=>un acc (nx ps p)) acc):=by
  intro S
  induction S with
  | nil=>intro acc h;exact h
  | cons x S ih=>intro acc ha;exact ih _ (ha.un (aeN h x))
 exact key S [] (.nil _)
theorem sF (ps:List aJ) {l:List Nat} (c:Nat) (h:sJ n l):sJ n (taking ps l c):=⟨Ef _ h.1,fun x hx=>h.2 x (List.mem_filter.1 hx).1⟩
theorem abM (h:iU ps):∀(w S:List Nat),sJ ps.length S->sJ ps.length (goW ps S w):=by
 intro w
 induction w with
 | nil=>intro S hS;exact hS
 | cons c w ih=>intro S hS;exact ih _ (sF ps c (uN h S))
theorem Br.pts (h:Br ls q):∀x∈q.1,mI (base ls) x.pt:=by
 intro x hx;obtain⟨i,hi⟩:=gf_ hx;have hil:i<ls.length:=by rw [<-h.n];exact (ge_.1 hi).1
 obtain⟨pt,g1,_,_,g4,_⟩:=h.get i _ (gg_ hil);rw [hi] at g1;cases g1
 exact g4
theorem aab (h:Br ls q) (mode:Int) (w:List Nat):sJ (base ls) (Fw q mode w):=by
 cases w with
 | nil=>exact .nil _
 | cons c w=>rw [<-h.len];refine abM h.ok w _ (sF _ c ?_);rw [h.len];exact xG mode h.pts
theorem uU (t:List Nat):∀(l:List aD) (k:Nat),(kz t l k=-1/\∀(i:Nat) (x:aD),l[i]?=some x->meet x.pt.last t=false)\/(∃(i:Nat) (x:aD),l[i]?=some x/\kz t l k=((k+i:Nat):Int)/\meet x.pt.last t=true/\∀(j:Nat) (y:aD),j<i->l[j]?=some y->meet y.pt.last t=false):=by
 intro l
 induction l with
 | nil=>intro k;exact .inl ⟨rfl,fun i x h=>by simp at h⟩
 | cons x l ih=>
  intro k;unfold kz;by_cases hm:meet x.pt.last t=true
  .rw [if_pos hm];exact .inr ⟨0,x,rfl,rfl,hm,fun j y hj=>by omega⟩
  .rw [if_neg hm];have hm':meet x.pt.last t=false:=by simpa using hm
   rcases ih (k+1) with ⟨h1,h2⟩ | ⟨i,y,h1,h2,h3,h4⟩
   .refine .inl ⟨h1,fun i y hi=>?_⟩
    cases i with
    | zero=>simp at hi;subst hi;exact hm'
    | succ i=>exact h2 i y (by simpa using hi)
   .refine .inr ⟨i+1,y,by simpa using h1,by rw [h2];congr 1;omega,h3,fun j z hj hz=>?_⟩
    cases j with
    | zero=>simp at hz;subst hz;exact hm'
    | succ j=>exact h4 j z (by omega) (by simpa using hz)
def oH (ls:List aC) (mode:Int) (w:List Nat) (r:Int):Prop:=
 (r=-1/\∀(i:Nat) (x:aC),ls[i]?=some x->x.mode=mode->¬M x.re w)\/(∃(i:Nat) (x:aC),r=i/\ls[i]?=some x/\x.mode=mode/\M x.re w/\∀(j:Nat) (y:aC),j<i->ls[j]?=some y->y.mode=mode->¬M y.re w)
theorem pK (h:Br ls q) (mode:Int) (w:List Nat) (hw:w≠[]):oH ls mode w (fU q.1 (Fw q mode w)):=by
 have akN:=aab h mode w;have key:∀(k:Nat) (x:aC) (y:aD),ls[k]?=some x->q.1[k]?=some y->(meet y.pt.last (Fw q mode w)=true↔x.mode=mode/\M x.re w):=by intro k x y hk hy;obtain⟨pt,g1,_,g3,g4,_⟩:=h.get k x hk;rw [hy] at g1;cases g1;rw [<-Wh h mode w hw hk];show meet pt.last _=true↔_;rw [Zx _ _ g4.2.1 akN.1];exact⟨fun ⟨p,a,b⟩=>⟨p,b,(g3 p).1 a⟩,fun ⟨p,a,b⟩=>⟨p,(g3 p).2 b,a⟩⟩
 have agK:∀{k:Nat} {x:aC},ls[k]?=some x->∃y,q.1[k]?=some y:=by intro k x hk;obtain⟨pt,g1,_⟩:=h.get k x hk;exact⟨_,g1⟩
 rcases uU (Fw q mode w) q.1 0 with ⟨h1,h2⟩ | ⟨i,y,h1,h2,h3,h4⟩
 .refine .inl ⟨h1,fun i x hi hm hM=>?_⟩;obtain⟨y,hy⟩:=agK hi;have:=(key i x y hi hy).2 ⟨hm,hM⟩;rw [h2 i y hy] at this;cases this
 .have hil:i<ls.length:=by rw [<-h.n];exact (ge_.1 h1).1
  have hx:=gg_ hil;have:=(key i _ y hx h1).1 h3;refine .inr ⟨i,_,by show kz _ _ _=_;rw [h2];simp,hx,this.1,this.2,fun j z hj hz hm hM=>?_⟩;obtain⟨y',hy'⟩:=agK hz;have:=(key j z y' hz hy').2 ⟨hm,hM⟩;rw [h4 j y' hj hy'] at this;cases this
end
end Pu
end Go.Proofs.YtmccnmgaoppogaaGreat
