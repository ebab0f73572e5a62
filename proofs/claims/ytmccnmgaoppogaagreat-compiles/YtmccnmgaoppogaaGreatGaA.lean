/-
 Plain mathematics: what a pattern matches, and what the net of its places takes.
 Plain mathematics: the sets of words, and the rules that match them.
-/
import Derived.Test.YtmccnmgaoppogaaGreatEA
namespace Go.Proofs.YtmccnmgaoppogaaGreat
namespace Pure
inductive M:Re→List Nat→Prop where
 | pl {T:Nat→Bool} {c:Nat}:T c=true→M (.pl T) [c]
 | cat {a b:Re} {u v:List Nat}:M a u→M b v→M (.cat a b) (u++v)
 | altL {a b:Re} {u:List Nat}:M a u→M (.alt a b) u
 | altR {a b:Re} {u:List Nat}:M b u→M (.alt a b) u
 | star0 {a:Re}:M (.star a) []
 | starS {a:Re} {u v:List Nat}:M a u→M (.star a) v→M (.star a) (u++v)
 | plus {a:Re} {u v:List Nat}:M a u→M (.star a) v→M (.plus a) (u++v)
 | opt0 {a:Re}:M (.opt a) []
 | optS {a:Re} {u:List Nat}:M a u→M (.opt a) u
def Re.empt:Re→Bool
 | .pl _=>false
 | .cat a b=>a.empt && b.empt
 | .alt a b=>a.empt || b.empt
 | .star _=>true
 | .plus a=>a.empt
 | .opt _=>true
theorem M.empt {re:Re} {w:List Nat} (h:M re w):w=[]→re.empt=true:=by
 induction h with
 | pl _=>intro e;cases e
 | cat _ _ iha ihb=>
  intro e;obtain⟨h1,h2⟩:=List.append_eq_nil_iff.1 e;simp [Re.empt,iha h1,ihb h2]
 | altL _ ih=>intro e;simp [Re.empt,ih e]
 | altR _ ih=>intro e;simp [Re.empt,ih e]
 | star0=>intro _;rfl
 | starS _ _ _ _=>intro _;rfl
 | plus _ _ ih _=>intro e;exact ih (List.append_eq_nil_iff.1 e).1
 | opt0=>intro _;rfl
 | optS _ _=>intro _;rfl
theorem empt_M {re:Re} (h:re.empt=true):M re []:=by
 induction re with
 | pl T=>cases h
 | cat a b iha ihb=>
  simp only [Re.empt,Bool.and_eq_true] at h;exact M.cat (u:=[]) (v:=[]) (iha h.1) (ihb h.2)
 | alt a b iha ihb=>
  simp only [Re.empt,Bool.or_eq_true] at h;rcases h with h | h
  ·exact .altL (iha h)
  ·exact .altR (ihb h)
 | star a _=>exact .star0
 | plus a ih=>exact M.plus (u:=[]) (v:=[]) (ih h) .star0
 | opt a _=>exact .opt0
theorem M_nil (re:Re):M re []↔re.empt=true:=⟨fun h=>h.empt rfl,empt_M⟩
def Fi:Re→Nat→Nat→Prop
 | .pl _,n,p=>p=n
 | .cat a b,n,p=>Fi a n p∨(a.empt=true∧Fi b (n+a.leaves) p)
 | .alt a b,n,p=>Fi a n p∨Fi b (n+a.leaves) p
 | .star a,n,p=>Fi a n p
 | .plus a,n,p=>Fi a n p
 | .opt a,n,p=>Fi a n p
def La:Re→Nat→Nat→Prop
 | .pl _,n,p=>p=n
 | .cat a b,n,p=>La b (n+a.leaves) p∨(b.empt=true∧La a n p)
 | .alt a b,n,p=>La a n p∨La b (n+a.leaves) p
 | .star a,n,p=>La a n p
 | .plus a,n,p=>La a n p
 | .opt a,n,p=>La a n p
def Fo:Re→Nat→Nat→Nat→Prop
 | .pl _,_,_,_=>False
 | .cat a b,n,p,q=>Fo a n p q∨Fo b (n+a.leaves) p q∨(La a n p∧Fi b (n+a.leaves) q)
 | .alt a b,n,p,q=>Fo a n p q∨Fo b (n+a.leaves) p q
 | .star a,n,p,q=>Fo a n p q∨(La a n p∧Fi a n q)
 | .plus a,n,p,q=>Fo a n p q∨(La a n p∧Fi a n q)
 | .opt a,n,p,q=>Fo a n p q
def Tk:Re→Nat→Nat→Nat→Prop
 | .pl T,n,p,c=>p=n∧T c=true
 | .cat a b,n,p,c=>Tk a n p c∨Tk b (n+a.leaves) p c
 | .alt a b,n,p,c=>Tk a n p c∨Tk b (n+a.leaves) p c
 | .star a,n,p,c=>Tk a n p c
 | .plus a,n,p,c=>Tk a n p c
 | .opt a,n,p,c=>Tk a n p c
def Rg (re:Re) (n p:Nat):Prop:=n≤p∧p<n+re.leaves
theorem Fi.rg {re:Re}:∀{n p:Nat},Fi re n p→Rg re n p:=by
 unfold Rg
 induction re with
 | pl T=>intro n p h;simp [Fi,Re.leaves] at *;omega
 | cat a b iha ihb=>
  rintro n p (h | ⟨_,h⟩)
  ·have:=iha h;simp [Re.leaves];omega
  ·have:=ihb h;simp [Re.leaves];omega
 | alt a b iha ihb=>
  rintro n p (h | h)
  ·have:=iha h;simp [Re.leaves];omega
  ·have:=ihb h;simp [Re.leaves];omega
 | star a ih=>intro n p h;exact ih h
 | plus a ih=>intro n p h;exact ih h
 | opt a ih=>intro n p h;exact ih h
theorem La.rg {re:Re}:∀{n p:Nat},La re n p→Rg re n p:=by
 unfold Rg
 induction re with
 | pl T=>intro n p h;simp [La,Re.leaves] at *;omega
 | cat a b iha ihb=>
  rintro n p (h | ⟨_,h⟩)
  ·have:=ihb h;simp [Re.leaves];omega
  ·have:=iha h;simp [Re.leaves];omega
 | alt a b iha ihb=>
  rintro n p (h | h)
  ·have:=iha h;simp [Re.leaves];omega
  ·have:=ihb h;simp [Re.leaves];omega
 | star a ih=>intro n p h;exact ih h
 | plus a ih=>intro n p h;exact ih h
 | opt a ih=>intro n p h;exact ih h
theorem Fo.rg {re:Re}:∀{n p q:Nat},Fo re n p q→Rg re n p∧Rg re n q:=by
 induction re with
 | pl T=>intro n p q h;exact h.elim
 | cat a b iha ihb=>
  rintro n p q (h | h | ⟨h,h'⟩)
  ·have:=iha h;simp [Rg,Re.leaves] at *;omega
  ·have:=ihb h;simp [Rg,Re.leaves] at *;omega
  ·have:=h.rg;have:=h'.rg;simp [Rg,Re.leaves] at *;omega
 | alt a b iha ihb=>
  rintro n p q (h | h)
  ·have:=iha h;simp [Rg,Re.leaves] at *;omega
  ·have:=ihb h;simp [Rg,Re.leaves] at *;omega
 | star a ih=>
  rintro n p q (h | ⟨h,h'⟩)
  ·exact ih h
  ·exact⟨h.rg,h'.rg⟩
 | plus a ih=>
  rintro n p q (h | ⟨h,h'⟩)
  ·exact ih h
  ·exact⟨h.rg,h'.rg⟩
 | opt a ih=>intro n p q h;exact ih h
theorem Tk.rg {re:Re}:∀{n p c:Nat},Tk re n p c→Rg re n p:=by
 unfold Rg
 induction re with
 | pl T=>intro n p c h;simp [Tk,Re.leaves] at *;omega
 | cat a b iha ihb=>
  rintro n p c (h | h)
  ·have:=iha h;simp [Re.leaves];omega
  ·have:=ihb h;simp [Re.leaves];omega
 | alt a b iha ihb=>
  rintro n p c (h | h)
  ·have:=iha h;simp [Re.leaves];omega
  ·have:=ihb h;simp [Re.leaves];omega
 | star a ih=>intro n p c h;exact ih h
 | plus a ih=>intro n p c h;exact ih h
 | opt a ih=>intro n p c h;exact ih h
inductive Pa (re:Re) (n:Nat):Nat→List Nat→Nat→Prop where
 | one {p c:Nat}:Tk re n p c→Pa re n p [c] p
 | cons {p q r c:Nat} {w:List Nat}:Tk re n p c→Fo re n p q→Pa re n q w r→Pa re n p (c::w) r
theorem Pa.lift {a b:Re} {n m p q:Nat} {w:List Nat} (h:Pa a n p w q) (ht:∀p c,Tk a n p c→Tk b m p c) (hf:∀p q,Fo a n p q→Fo b m p q):Pa b m p w q:=by
 induction h with
 | one k=>exact .one (ht _ _ k)
 | cons k k' _ ih=>exact .cons (ht _ _ k) (hf _ _ k') ih
theorem Pa.append {re:Re} {n p x y q:Nat} {u v:List Nat} (h:Pa re n p u x) (hf:Fo re n x y) (h':Pa re n y v q):Pa re n p (u++v) q:=by
 induction h with
 | one k=>exact .cons k hf h'
 | cons k k' _ ih=>exact .cons k k' (ih hf)
theorem Pa.ne {re:Re} {n p q:Nat} {w:List Nat} (h:Pa re n p w q):w≠[]:=by cases h <;> simp
theorem Pa.rg {re:Re} {n p q:Nat} {w:List Nat} (h:Pa re n p w q):Rg re n p∧Rg re n q:=by
 induction h with
 | one k=>exact⟨k.rg,k.rg⟩
 | cons k _ _ ih=>exact⟨k.rg,ih.2⟩
def Acc (re:Re) (n:Nat) (w:List Nat):Prop:=∃p q,Fi re n p∧La re n q∧Pa re n p w q
theorem acc_cat1 {a b:Re} {n:Nat} {u:List Nat} (h:Acc a n u) (hb:b.empt=true):Acc (.cat a b) n u:=by
 obtain⟨p,q,h1,h2,h3⟩:=h
 exact⟨p,q,.inl h1,.inr ⟨hb,h2⟩,h3.lift (fun _ _ k=>.inl k) (fun _ _ k=>.inl k)⟩
theorem acc_cat2 {a b:Re} {n:Nat} {u:List Nat} (h:Acc b (n+a.leaves) u) (ha:a.empt=true):Acc (.cat a b) n u:=by
 obtain⟨p,q,h1,h2,h3⟩:=h
 exact⟨p,q,.inr ⟨ha,h1⟩,.inl h2,h3.lift (fun _ _ k=>.inr k) (fun _ _ k=>.inr (.inl k))⟩
theorem acc_cat {a b:Re} {n:Nat} {u v:List Nat} (h:Acc a n u) (h':Acc b (n+a.leaves) v):Acc (.cat a b) n (u++v):=by
 obtain⟨p,q,h1,h2,h3⟩:=h
 obtain⟨p',q',k1,k2,k3⟩:=h'
 exact⟨p,q',.inl h1,.inl k2,(h3.lift (b:=.cat a b) (m:=n) (fun _ _ k=>.inl k) (fun _ _ k=>.inl k)).append (.inr (.inr ⟨h2,k1⟩)) (k3.lift (fun _ _ k=>.inr k) (fun _ _ k=>.inr (.inl k)))⟩
theorem acc_star1 {a:Re} {n:Nat} {u:List Nat} (h:Acc a n u):Acc (.star a) n u:=by
 obtain⟨p,q,h1,h2,h3⟩:=h
 exact⟨p,q,h1,h2,h3.lift (fun _ _ k=>k) (fun _ _ k=>.inl k)⟩
theorem acc_starS {a:Re} {n:Nat} {u v:List Nat} (h:Acc a n u) (h':Acc (.star a) n v):Acc (.star a) n (u++v):=by
 obtain⟨p,q,h1,h2,h3⟩:=h
 obtain⟨p',q',k1,k2,k3⟩:=h'
 exact⟨p,q',h1,k2,(h3.lift (b:=.star a) (m:=n) (fun _ _ k=>k) (fun _ _ k=>.inl k)).append (.inr ⟨h2,k1⟩) k3⟩
theorem M.acc {re:Re} {w:List Nat} (h:M re w):∀n,w≠[]→Acc re n w:=by
 induction h with
 | pl h=>intro n _;exact⟨n,n,rfl,rfl,.one ⟨rfl,h⟩⟩
 | @cat a b u v h1 h2 iha ihb=>
  intro n hn;by_cases hu:u=[]
  ·subst hu
   exact acc_cat2 (ihb _ hn) (h1.empt rfl)
  ·by_cases hv:v=[]
   ·subst hv
    rw [List.append_nil];exact acc_cat1 (iha _ hu) (h2.empt rfl)
   ·exact acc_cat (iha _ hu) (ihb _ hv)
 | altL _ ih=>
  intro n hn;obtain⟨p,q,h1,h2,h3⟩:=ih n hn;exact⟨p,q,.inl h1,.inl h2,h3.lift (fun _ _ k=>.inl k) (fun _ _ k=>.inl k)⟩
 | @altR a b u _ ih=>
  intro n hn;obtain⟨p,q,h1,h2,h3⟩:=ih (n+a.leaves) hn;exact⟨p,q,.inr h1,.inr h2,h3.lift (fun _ _ k=>.inr k) (fun _ _ k=>.inr k)⟩
 | star0=>intro n hn;exact absurd rfl hn
 | @starS a u v h1 h2 iha ihb=>
  intro n hn;by_cases hu:u=[]
  ·subst hu
   exact ihb _ hn
  ·by_cases hv:v=[]
   ·subst hv
    rw [List.append_nil];exact acc_star1 (iha _ hu)
   ·exact acc_starS (iha _ hu) (ihb _ hv)
 | @plus a u v h1 h2 iha ihb=>
  intro n hn
  have key:Acc (.star a) n (u++v):=by
   by_cases hu:u=[]
   ·subst hu
    exact ihb _ hn
   ·by_cases hv:v=[]
    ·subst hv
     rw [List.append_nil];exact acc_star1 (iha _ hu)
    ·exact acc_starS (iha _ hu) (ihb _ hv)
  obtain⟨p,q,k1,k2,k3⟩:=key;exact⟨p,q,k1,k2,k3.lift (fun _ _ k=>k) (fun _ _ k=>k)⟩
 | opt0=>intro n hn;exact absurd rfl hn
 | optS _ ih=>
  intro n hn;obtain⟨p,q,h1,h2,h3⟩:=ih n hn;exact⟨p,q,h1,h2,h3.lift (fun _ _ k=>k) (fun _ _ k=>k)⟩
theorem cat_split {a b:Re} {n p q:Nat} {w:List Nat} (h:Pa (.cat a b) n p w q) :
  (Rg a n p→Pa a n p w q∨∃u v x y,w=u++v∧Pa a n p u x∧La a n x∧Fi b (n+a.leaves) y∧Pa b (n+a.leaves) y v q)∧(Rg b (n+a.leaves) p→Pa b (n+a.leaves) p w q):=by
 induction h with
 | @one p c k=>
  refine⟨fun hr=>?_,fun hr=>?_⟩
  ·rcases k with k | k
   ·exact .inl (.one k)
   ·have:=k.rg;unfold Rg at *;omega
  ·rcases k with k | k
   ·have:=k.rg;unfold Rg at *;omega
   ·exact .one k
 | @cons p p' r c w k f _ ih=>
  refine⟨fun hr=>?_,fun hr=>?_⟩
  ·have k':Tk a n p c:=by
    rcases k with k | k
    ·exact k
    ·have:=k.rg;unfold Rg at *;omega
   rcases f with f | f | ⟨f,g⟩
   ·rcases ih.1 f.rg.2 with z | ⟨u,v,x,y,rfl,z1,z2⟩
    ·exact .inl (.cons k' f z)
    ·exact .inr ⟨c::u,v,x,y,rfl,.cons k' f z1,z2⟩
   ·have:=f.rg;unfold Rg at *;omega
   ·exact .inr ⟨[c],w,p,p',rfl,.one k',f,g,ih.2 g.rg⟩
  ·have k':Tk b (n+a.leaves) p c:=by
    rcases k with k | k
    ·have:=k.rg;unfold Rg at *;omega
    ·exact k
   rcases f with f | f | ⟨f,g⟩
   ·have:=f.rg;unfold Rg at *;omega
   ·exact .cons k' f (ih.2 f.rg.2)
   ·have:=f.rg;unfold Rg at *;omega
theorem alt_split {a b:Re} {n p q:Nat} {w:List Nat} (h:Pa (.alt a b) n p w q):(Rg a n p→Pa a n p w q)∧(Rg b (n+a.leaves) p→Pa b (n+a.leaves) p w q):=by
 induction h with
 | @one p c k=>
  refine⟨fun hr=>?_,fun hr=>?_⟩
  ·rcases k with k | k
   ·exact .one k
   ·have:=k.rg;unfold Rg at *;omega
  ·rcases k with k | k
   ·have:=k.rg;unfold Rg at *;omega
   ·exact .one k
 | @cons p p' r c w k f _ ih=>
  refine⟨fun hr=>?_,fun hr=>?_⟩
  ·rcases k with k | k
   ·rcases f with f | f
    ·exact .cons k f (ih.1 f.rg.2)
    ·have:=f.rg;unfold Rg at *;omega
   ·have:=k.rg;unfold Rg at *;omega
  ·rcases k with k | k
   ·have:=k.rg;unfold Rg at *;omega
   ·rcases f with f | f
    ·have:=f.rg;unfold Rg at *;omega
    ·exact .cons k f (ih.2 f.rg.2)
theorem star_split {a:Re} {n p q:Nat} {w:List Nat} (h:Pa (.star a) n p w q):Pa a n p w q∨∃u v x y,w=u++v∧Pa a n p u x∧La a n x∧Fi a n y∧Pa (.star a) n y v q:=by
 induction h with
 | one k=>exact .inl (.one k)
 | @cons p p' r c w k f g ih=>
  rcases f with f | ⟨f,f'⟩
  ·rcases ih with z | ⟨u,v,x,y,rfl,z1,z2⟩
   ·exact .inl (.cons k f z)
   ·exact .inr ⟨c::u,v,x,y,rfl,.cons k f z1,z2⟩
  ·exact .inr ⟨[c],w,p,p',rfl,.one k,f,f',g⟩
theorem star_M {a:Re} {n:Nat} (ih:∀w,Acc a n w→M a w):∀(k:Nat) (w:List Nat) (p q:Nat),w.length≤k→Fi a n p→La a n q→Pa (.star a) n p w q→∃u v,w=u++v∧M a u∧M (.star a) v:=by
 intro k
 induction k with
 | zero=>
  intro w p q hk _ _ h;exact absurd (List.eq_nil_of_length_eq_zero (by omega)) h.ne
 | succ k ihk=>
  intro w p q hk hp hq h;rcases star_split h with z | ⟨u,v,x,y,rfl,z1,z2,z3,z4⟩
  ·exact⟨w,[],(List.append_nil _).symm,ih w ⟨p,q,hp,hq,z⟩,.star0⟩
  ·have hu:=z1.ne
   have hl:0<u.length:=List.length_pos_iff.2 hu;rw [List.length_append] at hk;obtain⟨u',v',rfl,m1,m2⟩:=ihk v y q (by omega) z3 hq z4;exact⟨u,u'++v',rfl,ih u ⟨p,x,hp,z2,z1⟩,.starS m1 m2⟩
theorem Acc.m {re:Re}:∀{n:Nat} {w:List Nat},Acc re n w→M re w:=by
 induction re with
 | pl T=>
  rintro n w ⟨p,q,h1,h2,h3⟩
  cases h3 with
  | one k=>exact .pl k.2
  | cons _ f _=>exact f.elim
 | cat a b iha ihb=>
  rintro n w ⟨p,q,h1,h2,h3⟩;rcases h1 with h1 | ⟨he,h1⟩
  ·rcases (cat_split h3).1 h1.rg with z | ⟨u,v,x,y,rfl,z1,z2,z3,z4⟩
   ·rcases h2 with h2 | ⟨hb,h2⟩
    ·have:=h2.rg;have:=z.rg;unfold Rg at *;omega
    ·have:=M.cat (iha ⟨p,q,h1,h2,z⟩) (empt_M hb)
     rwa [List.append_nil] at this
   ·rcases h2 with h2 | ⟨hb,h2⟩
    ·exact .cat (iha ⟨p,x,h1,z2,z1⟩) (ihb ⟨y,q,z3,h2,z4⟩)
    ·have:=h2.rg;have:=z4.rg;unfold Rg at *;omega
  ·have z:=(cat_split h3).2 h1.rg
   rcases h2 with h2 | ⟨hb,h2⟩
   ·exact M.cat (u:=[]) (empt_M he) (ihb ⟨p,q,h1,h2,z⟩)
   ·have:=h2.rg;have:=z.rg;unfold Rg at *;omega
 | alt a b iha ihb=>
  rintro n w ⟨p,q,h1,h2,h3⟩;rcases h1 with h1 | h1
  ·have z:=(alt_split h3).1 h1.rg
   rcases h2 with h2 | h2
   ·exact .altL (iha ⟨p,q,h1,h2,z⟩)
   ·have:=h2.rg;have:=z.rg;unfold Rg at *;omega
  ·have z:=(alt_split h3).2 h1.rg
   rcases h2 with h2 | h2
   ·have:=h2.rg;have:=z.rg;unfold Rg at *;omega
   ·exact .altR (ihb ⟨p,q,h1,h2,z⟩)
 | star a ih=>
  rintro n w ⟨p,q,h1,h2,h3⟩;obtain⟨u,v,rfl,m1,m2⟩:=star_M (fun w h=>ih h) w.length w p q lr_ h1 h2 h3;exact .starS m1 m2
 | plus a ih=>
  rintro n w ⟨p,q,h1,h2,h3⟩;obtain⟨u,v,rfl,m1,m2⟩:=star_M (fun w h=>ih h) w.length w p q lr_ h1 h2 (h3.lift (fun _ _ k=>k) (fun _ _ k=>k));exact .plus m1 m2
 | opt a ih=>
  rintro n w ⟨p,q,h1,h2,h3⟩;exact .optS (ih ⟨p,q,h1,h2,h3.lift (fun _ _ k=>k) (fun _ _ k=>k)⟩)
theorem M_acc (re:Re) (n:Nat) {w:List Nat} (hw:w≠[]):M re w↔Acc re n w:=⟨fun h=>h.acc n hw,Acc.m⟩
theorem leads_nx (to:List Nat) (q p:Nat):∀(fr:List Nat) (ps:List Pl),q∈nx (leads fr to ps) p↔q∈nx ps p∨(p∈fr∧p<ps.length∧q∈to):=by
 intro fr
 induction fr with
 | nil=>intro ps;simp [leads]
 | cons x fr ih=>
  intro ps;have e:leads (x::fr) to ps=leads fr to (lead1 to ps x):=rfl;rw [e,ih,lead1_length]
  have h1:q∈nx (lead1 to ps x) p↔q∈nx ps p∨(x=p∧p<ps.length∧q∈to):=by
   unfold nx;rw [lead1_get]
   cases hp:ps[p]? with
   | none=>
    have:=List.getElem?_eq_none_iff.1 hp;simp only [Option.map_none,List.not_mem_nil,false_or,false_iff];omega
   | some y=>
    have hl:p<ps.length:=(List.getElem?_eq_some_iff.1 hp).1;simp only [Option.map_some];split
    ·rename_i hx
     simp only [un_mem,hx,hl,true_and]
    ·rename_i hx
     simp [hx]
  rw [h1,List.mem_cons];constructor
  ·rintro ((h | ⟨h,h',h''⟩) | ⟨h,h',h''⟩)
   ·exact .inl h
   ·exact .inr ⟨.inl h.symm,h',h''⟩
   ·exact .inr ⟨.inr h,h',h''⟩
  ·rintro (h | ⟨h | h,h',h''⟩)
   ·exact .inl (.inl h)
   ·exact .inl (.inr ⟨h.symm,h',h''⟩)
   ·exact .inr ⟨h,h',h''⟩
theorem leads_tk (to:List Nat) (p c:Nat):∀(fr:List Nat) (ps:List Pl),tk (leads fr to ps) p c=tk ps p c:=by
 intro fr
 induction fr with
 | nil=>intro ps;rfl
 | cons x fr ih=>
  intro ps;have e:leads (x::fr) to ps=leads fr to (lead1 to ps x):=rfl;rw [e,ih];unfold tk;rw [lead1_get]
  cases hp:ps[p]? with
  | none=>rfl
  | some y=>
   simp only [Option.map_some];split <;> rfl
theorem part_empt (re:Re):∀ps,(part re ps).1.empty=re.empt:=by
 induction re with
 | pl T=>intro ps;rfl
 | cat a b iha ihb=>intro ps;show (_ && _)=_;rw [iha,ihb];rfl
 | alt a b iha ihb=>intro ps;show (_ || _)=_;rw [iha,ihb];rfl
 | star a ih=>intro ps;show (_ || _)=_;rw [ih];simp [Re.empt]
 | plus a ih=>intro ps;show (_ || _)=_;rw [ih];simp [Re.empt]
 | opt a ih=>intro ps;show (_ || _)=_;rw [ih];simp [Re.empt]
structure Net (re:Re) (ps:List Pl) (r:Pt × List Pl):Prop where
 fi:∀p,p∈r.1.first↔Fi re ps.length p
 la:∀p,p∈r.1.last↔La re ps.length p
 fo:∀p q,q∈nx r.2 p↔q∈nx ps p∨Fo re ps.length p q
 tk:∀p c,Pure.tk r.2 p c=true↔Pure.tk ps p c=true∨Tk re ps.length p c
theorem part_net (re:Re):∀ps,Net re ps (part re ps):=by
 induction re with
 | pl T=>
  intro ps
  have hnew:∀p,(ps++[(⟨T,[]⟩:Pl)])[p]?=if p=ps.length then some ⟨T,[]⟩ else ps[p]?:=by
   intro p;rw [List.getElem?_append];split
   ·rw [if_neg (by omega)]
   ·split
    ·rename_i h
     subst h;simp
    ·rw [List.getElem?_eq_none (by simp;omega),List.getElem?_eq_none (by omega)]
  refine⟨fun p=>by simp [part,oneP,Fi],fun p=>by simp [part,oneP,La],fun p q=>?_,fun p c=>?_⟩
  ·show q∈nx (ps++[⟨T,[]⟩]) p↔_
   unfold nx;rw [hnew];split
   ·rename_i h
    split at h
    ·rename_i e
     cases h
     subst e;simp [Fo]
    ·rw [h]
     simp [Fo]
   ·rename_i h
    split at h
    ·cases h
    ·rw [h]
     simp [Fo]
  ·show Pure.tk (ps++[⟨T,[]⟩]) p c=true↔_
   unfold Pure.tk;rw [hnew];by_cases e:p=ps.length
   ·subst e
    simp [Tk]
   ·rw [if_neg e]
    simp [Tk,e]
 | cat a b iha ihb=>
  intro ps;have ka:=iha ps;have kb:=ihb (part a ps).2;have la:=part_length a ps;have lb:=part_length b (part a ps).2;have ea:=part_empt a ps;have eb:=part_empt b (part a ps).2;obtain⟨kf,kl,ko,kt⟩:=kb;rw [la] at kf kl ko kt;refine⟨fun p=>?_,fun p=>?_,fun p q=>?_,fun p c=>?_⟩
  ·show p∈(if (part a ps).1.empty=true then _ else _)↔_
   rw [ea];split
   ·rename_i h
    rw [un_mem,ka.fi,kf];simp [Fi,h]
   ·rename_i h
    rw [ka.fi];simp [Fi,h]
  ·show p∈(if (part b _).1.empty=true then _ else _)↔_
   rw [eb];split
   ·rename_i h
    rw [un_mem,ka.la,kl];simp only [La,h,true_and];exact Or.comm
   ·rename_i h
    rw [kl];simp [La,h]
  ·show q∈nx (leads _ _ _) p↔_
   rw [leads_nx,ko,ka.fo,ka.la,kf,lb,la];simp only [Fo];constructor
   ·rintro (((h | h) | h) | ⟨h1,_,h2⟩)
    ·exact .inl h
    ·exact .inr (.inl h)
    ·exact .inr (.inr (.inl h))
    ·exact .inr (.inr (.inr ⟨h1,h2⟩))
   ·rintro (h | h | h | ⟨h1,h2⟩)
    ·exact .inl (.inl (.inl h))
    ·exact .inl (.inl (.inr h))
    ·exact .inl (.inr h)
    ·have:=h1.rg
     exact .inr ⟨h1,by unfold Rg at this;omega,h2⟩
  ·show Pure.tk (leads _ _ _) p c=true↔_
   rw [leads_tk,kt,ka.tk];simp only [Tk];exact or_assoc
 | alt a b iha ihb=>
  intro ps;have ka:=iha ps;have kb:=ihb (part a ps).2;have la:=part_length a ps;obtain⟨kf,kl,ko,kt⟩:=kb;rw [la] at kf kl ko kt;refine⟨fun p=>?_,fun p=>?_,fun p q=>?_,fun p c=>?_⟩
  ·show p∈un _ _↔_
   rw [un_mem,ka.fi,kf];rfl
  ·show p∈un _ _↔_
   rw [un_mem,ka.la,kl];rfl
  ·show q∈nx (part b _).2 p↔_
   rw [ko,ka.fo];simp only [Fo];exact or_assoc
  ·show Pure.tk (part b _).2 p c=true↔_
   rw [kt,ka.tk];simp only [Tk];exact or_assoc
 | star a ih=>
  intro ps;have ka:=ih ps;have la:=part_length a ps;refine⟨ka.fi,ka.la,fun p q=>?_,fun p c=>?_⟩
  ·show q∈nx (leads _ _ _) p↔_
   rw [leads_nx,ka.fo,ka.la,ka.fi,la];simp only [Fo];constructor
   ·rintro ((h | h) | ⟨h1,_,h2⟩)
    ·exact .inl h
    ·exact .inr (.inl h)
    ·exact .inr (.inr ⟨h1,h2⟩)
   ·rintro (h | h | ⟨h1,h2⟩)
    ·exact .inl (.inl h)
    ·exact .inl (.inr h)
    ·exact .inr ⟨h1,h1.rg.2,h2⟩
  ·show Pure.tk (leads _ _ _) p c=true↔_
   rw [leads_tk,ka.tk];rfl
 | plus a ih=>
  intro ps;have ka:=ih ps;have la:=part_length a ps;refine⟨ka.fi,ka.la,fun p q=>?_,fun p c=>?_⟩
  ·show q∈nx (leads _ _ _) p↔_
   rw [leads_nx,ka.fo,ka.la,ka.fi,la];simp only [Fo];constructor
   ·rintro ((h | h) | ⟨h1,_,h2⟩)
    ·exact .inl h
    ·exact .inr (.inl h)
    ·exact .inr (.inr ⟨h1,h2⟩)
   ·rintro (h | h | ⟨h1,h2⟩)
    ·exact .inl (.inl h)
    ·exact .inl (.inr h)
    ·exact .inr ⟨h1,h1.rg.2,h2⟩
  ·show Pure.tk (leads _ _ _) p c=true↔_
   rw [leads_tk,ka.tk];rfl
 | opt a ih=>
  intro ps;have ka:=ih ps;exact⟨ka.fi,ka.la,ka.fo,ka.tk⟩
end Pure
namespace Pure
def base (ls:List Ln):Nat:=(ls.map (fun x=>x.re.leaves)).sum
theorem base_append (a b:List Ln):base (a++b)=base a+base b:=by simp [base]
theorem base_one (x:Ln):base [x]=x.re.leaves:=by simp [base]
theorem base_take_le (ls:List Ln) (k:Nat):base (ls.take k)≤base ls:=by
 have:=base_append (ls.take k) (ls.drop k)
 rw [List.take_append_drop] at this
 omega
theorem base_take_succ {ls:List Ln} {k:Nat} {x:Ln} (h:ls[k]?=some x):base (ls.take (k+1))=base (ls.take k)+x.re.leaves:=by
 rw [List.take_add_one,h,base_append]
 simp [base]
theorem base_take_mono (ls:List Ln) {j k:Nat} (h:j≤k):base (ls.take j)≤base (ls.take k):=by
 have:=base_take_le (ls.take k) j
 rwa [List.take_take,Nat.min_eq_left h] at this
theorem rg_same {ls:List Ln} {j k:Nat} {x y:Ln} {p:Nat} (hj:ls[j]?=some x) (hk:ls[k]?=some y) (h1:Rg x.re (base (ls.take j)) p) (h2:Rg y.re (base (ls.take k)) p):j=k:=by
 unfold Rg at h1 h2
 rcases Nat.lt_trichotomy j k with h | h | h
 ·have:=base_take_mono ls (show j+1≤k from h)
  rw [base_take_succ hj] at this;omega
 ·exact h
 ·have:=base_take_mono ls (show k+1≤j from h)
  rw [base_take_succ hk] at this;omega
structure Lin (ls:List Ln) (q:List Lp × List Pl):Prop where
 len:q.2.length=base ls
 ok:PlsOK q.2
 n:q.1.length=ls.length
 get:∀k x,ls[k]?=some x→∃pt,q.1[k]?=some (x.lp pt)∧(∀p,p∈pt.first↔Fi x.re (base (ls.take k)) p)∧(∀p,p∈pt.last↔La x.re (base (ls.take k)) p)∧PtOK (base ls) pt∧pt.empty=x.re.empt
 fo:∀p q',q'∈nx q.2 p↔∃k x,ls[k]?=some x∧Fo x.re (base (ls.take k)) p q'
 tk:∀p c,Pure.tk q.2 p c=true↔∃k x,ls[k]?=some x∧Tk x.re (base (ls.take k)) p c
theorem snoc_get {α:Type} {l:List α} {x y:α} {k:Nat} (h:(l++[x])[k]?=some y):(k<l.length∧l[k]?=some y)∨(k=l.length∧y=x):=by
 rw [List.getElem?_append] at h
 split at h
 ·exact .inl ⟨by assumption,h⟩
 ·rw [List.getElem?_singleton] at h
  split at h
  ·cases h
   exact .inr ⟨by omega,rfl⟩
  ·cases h
theorem Lin.add {ls:List Ln} {q:List Lp × List Pl} (h:Lin ls q) (x:Ln):Lin (ls++[x]) (addLn q x):=by
 have net:=part_net x.re q.2
 have pok:=part_ok x.re q.2 h.ok
 have plen:=part_length x.re q.2
 rw [h.len] at plen
 have hb:base (ls++[x])=base ls+x.re.leaves:=by rw [base_append,base_one]
 have tk1:∀{k:Nat},k≤ls.length→(ls++[x]).take k=ls.take k:=fun hk=>List.take_append_of_le_length hk
 have bk:base ((ls++[x]).take ls.length)=base ls:=by rw [tk1 lr_,List.take_length]
 refine⟨by rw [hb];exact plen,pok.2,by simp [addLn,h.n],fun k y hk=>?_,fun p q'=>?_,fun p c=>?_⟩
 ·rcases snoc_get hk with ⟨hl,hk'⟩ | ⟨rfl,rfl⟩
  ·obtain⟨pt,h1,h2,h3,h4,h5⟩:=h.get k y hk'
   rw [tk1 (by omega)];refine⟨pt,?_,h2,h3,h4.mono (by omega),h5⟩;show (q.1++_)[k]?=_;rw [List.getElem?_append_left (by rw [h.n];exact hl)];exact h1
  ·rw [bk]
   refine⟨(part y.re q.2).1,?_,?_,?_,?_,part_empt _ _⟩
   ·show (q.1++_)[ls.length]?=_
    rw [←h.n];simp
   ·intro p
    rw [←h.len];exact net.fi p
   ·intro p
    rw [←h.len];exact net.la p
   ·rw [hb,←plen]
    exact pok.1
 ·show q'∈nx (part x.re q.2).2 p↔_
  rw [net.fo,h.fo,h.len];constructor
  ·rintro (⟨k,y,hk,hf⟩ | hf)
   ·have hl:k<ls.length:=(List.getElem?_eq_some_iff.1 hk).1
    exact⟨k,y,by rw [List.getElem?_append_left hl];exact hk,by rw [tk1 (by omega)];exact hf⟩
   ·exact⟨ls.length,x,by simp,by rw [bk];exact hf⟩
  ·rintro ⟨k,y,hk,hf⟩
   rcases snoc_get hk with ⟨hl,hk'⟩ | ⟨rfl,rfl⟩
   ·rw [tk1 (by omega)] at hf
    exact .inl ⟨k,y,hk',hf⟩
   ·rw [bk] at hf
    exact .inr hf
 ·show Pure.tk (part x.re q.2).2 p c=true↔_
  rw [net.tk,h.tk,h.len];constructor
  ·rintro (⟨k,y,hk,hf⟩ | hf)
   ·have hl:k<ls.length:=(List.getElem?_eq_some_iff.1 hk).1
    exact⟨k,y,by rw [List.getElem?_append_left hl];exact hk,by rw [tk1 (by omega)];exact hf⟩
   ·exact⟨ls.length,x,by simp,by rw [bk];exact hf⟩
  ·rintro ⟨k,y,hk,hf⟩
   rcases snoc_get hk with ⟨hl,hk'⟩ | ⟨rfl,rfl⟩
   ·rw [tk1 (by omega)] at hf
    exact .inl ⟨k,y,hk',hf⟩
   ·rw [bk] at hf
    exact .inr hf
theorem lin_nil:Lin [] (([],[]):List Lp × List Pl):=
 ⟨rfl,fun p hp=>by simp at hp,rfl,fun k x h=>by simp at h,fun p q=>by simp [nx],fun p c=>by simp [Pure.tk]⟩
theorem lin_fold (r:List Ln):∀(ls:List Ln) (q:List Lp × List Pl),Lin ls q→Lin (ls++r) (r.foldl addLn q):=by
 induction r with
 | nil=>intro ls q h;simpa using h
 | cons x r ih=>
  intro ls q h;have:=ih _ _ (h.add x);simpa using this
theorem allLn_lin (ls:List Ln):Lin ls (allLn ls):=by simpa [allLn] using lin_fold ls [] ([],[]) lin_nil
theorem mem_taking (ps:List Pl) (ready:List Nat) (c p:Nat):p∈taking ps ready c↔p∈ready∧tk ps p c=true:=by simp [taking]
theorem mem_behind (ps:List Pl) (q:Nat) (S:List Nat):q∈behindR ps S↔∃p,p∈S∧q∈nx ps p:=by
 have key:∀(S acc:List Nat),q∈S.foldl (fun acc p=>un acc (nx ps p)) acc↔q∈acc∨∃p,p∈S∧q∈nx ps p:=by
  intro S
  induction S with
  | nil=>intro acc;simp
  | cons x S ih=>
   intro acc;rw [List.foldl_cons,ih,un_mem];constructor
   ·rintro ((h | h) | ⟨p,h1,h2⟩)
    ·exact .inl h
    ·exact .inr ⟨x,List.mem_cons_self ..,h⟩
    ·exact .inr ⟨p,List.mem_cons_of_mem _ h1,h2⟩
   ·rintro (h | ⟨p,h1,h2⟩)
    ·exact .inl (.inl h)
    ·rcases List.mem_cons.1 h1 with rfl | h1
     ·exact .inl (.inr h2)
     ·exact .inr ⟨p,h1,h2⟩
 unfold behindR
 rw [key]
 simp
theorem mem_begin (mode:Int) (p:Nat) (ls:List Lp):p∈beginR ls mode↔∃x,x∈ls∧x.mode=mode∧p∈x.pt.first:=by
 have key:∀(ls:List Lp) (acc:List Nat),p∈ls.foldl (fun acc x=>if x.mode=mode then un acc x.pt.first else acc) acc↔p∈acc∨∃x,x∈ls∧x.mode=mode∧p∈x.pt.first:=by
  intro ls
  induction ls with
  | nil=>intro acc;simp
  | cons x ls ih=>
   intro acc;rw [List.foldl_cons,ih];split
   ·rename_i hm
    rw [un_mem];constructor
    ·rintro ((h | h) | ⟨y,h1,h2⟩)
     ·exact .inl h
     ·exact .inr ⟨x,List.mem_cons_self ..,hm,h⟩
     ·exact .inr ⟨y,List.mem_cons_of_mem _ h1,h2⟩
    ·rintro (h | ⟨y,h1,h2⟩)
     ·exact .inl (.inl h)
     ·rcases List.mem_cons.1 h1 with rfl | h1
      ·exact .inl (.inr h2.2)
      ·exact .inr ⟨y,h1,h2⟩
   ·rename_i hm
    constructor
    ·rintro (h | ⟨y,h1,h2⟩)
     ·exact .inl h
     ·exact .inr ⟨y,List.mem_cons_of_mem _ h1,h2⟩
    ·rintro (h | ⟨y,h1,h2⟩)
     ·exact .inl h
     ·rcases List.mem_cons.1 h1 with rfl | h1
      ·exact absurd h2.1 hm
      ·exact .inr ⟨y,h1,h2⟩
 unfold beginR
 rw [key]
 simp
def goW (ps:List Pl):List Nat→List Nat→List Nat
 | S,[]=>S
 | S,c::w=>goW ps (taking ps (behindR ps S) c) w
def setW (q:List Lp × List Pl) (mode:Int):List Nat→List Nat
 | []=>[]
 | c::w=>goW q.2 (taking q.2 (beginR q.1 mode) c) w
inductive Tp (re:Re) (n:Nat):Nat→List Nat→Nat→Prop where
 | nil {p:Nat}:Tp re n p [] p
 | cons {p q r c:Nat} {w:List Nat}:Fo re n p q→Tk re n q c→Tp re n q w r→Tp re n p (c::w) r
theorem Pa.tp {re:Re} {n p r:Nat} {w:List Nat} (h:Pa re n p w r):∃c v,w=c::v∧Tk re n p c∧Tp re n p v r:=by
 induction h with
 | one k=>exact⟨_,_,rfl,k,.nil⟩
 | cons k f _ ih=>
  obtain⟨c,v,rfl,h1,h2⟩:=ih;exact⟨_,_,rfl,k,.cons f h1 h2⟩
theorem Tp.pa {re:Re} {n p r c:Nat} {w:List Nat} (h:Tp re n p w r) (hk:Tk re n p c):Pa re n p (c::w) r:=by
 induction h generalizing c with
 | nil=>exact .one hk
 | cons f k _ ih=>exact .cons hk f (ih k)
theorem pa_tp {re:Re} {n p r c:Nat} {w:List Nat}:Pa re n p (c::w) r↔Tk re n p c∧Tp re n p w r:=by
 constructor
 ·intro h
  obtain⟨c',v,e,h1,h2⟩:=h.tp;cases e;exact⟨h1,h2⟩
 ·exact fun h=>h.2.pa h.1
section
variable {ls:List Ln} {q:List Lp × List Pl}
theorem mem_goW (h:Lin ls q) (r:Nat):∀(w S:List Nat),(∀p∈S,∃k x,ls[k]?=some x∧Rg x.re (base (ls.take k)) p)→
  (r∈goW q.2 S w↔∃p,p∈S∧∃k x,ls[k]?=some x∧Rg x.re (base (ls.take k)) p∧Tp x.re (base (ls.take k)) p w r):=by
 intro w
 induction w with
 | nil=>
  intro S hS;constructor
  ·intro hr
   obtain⟨k,x,hk,hg⟩:=hS r hr;exact⟨r,hr,k,x,hk,hg,.nil⟩
  ·rintro ⟨p,hp,k,x,hk,hg,ht⟩
   cases ht
   exact hp
 | cons c w ih=>
  intro S hS;show r∈goW q.2 (taking q.2 (behindR q.2 S) c) w↔_;rw [ih]
  ·constructor
   ·rintro ⟨p',hp',k,x,hk,hg,ht⟩
    rw [mem_taking,mem_behind,h.tk] at hp';obtain⟨⟨p,hp,hf⟩,j,y,hj,htk⟩:=hp';rw [h.fo] at hf;obtain⟨i,z,hi,hf⟩:=hf;have e1:=rg_same hj hk htk.rg hg;subst e1;have e2:=rg_same hi hk hf.rg.2 hg;subst e2;rw [hk] at hj hi;cases hj;cases hi;exact⟨p,hp,i,x,hk,hf.rg.1,.cons hf htk ht⟩
   ·rintro ⟨p,hp,k,x,hk,hg,ht⟩
    cases ht with
    | @cons _ p' _ _ _ hf htk ht=>
     refine⟨p',?_,k,x,hk,hf.rg.2,ht⟩;rw [mem_taking,mem_behind,h.tk];exact⟨⟨p,hp,(h.fo _ _).2 ⟨k,x,hk,hf⟩⟩,k,x,hk,htk⟩
  ·intro p hp
   rw [mem_taking,h.tk] at hp;obtain⟨_,k,x,hk,ht⟩:=hp;exact⟨k,x,hk,ht.rg⟩
theorem mem_setW (h:Lin ls q) (mode:Int) (w:List Nat) (hw:w≠[]) (r:Nat) :
  r∈setW q mode w↔∃k x,ls[k]?=some x∧x.mode=mode∧∃p,Fi x.re (base (ls.take k)) p∧Pa x.re (base (ls.take k)) p w r:=by
 cases w with
 | nil=>exact absurd rfl hw
 | cons c w=>
  show r∈goW q.2 (taking q.2 (beginR q.1 mode) c) w↔_;rw [mem_goW h]
  ·constructor
   ·rintro ⟨p,hp,k,x,hk,hg,ht⟩
    rw [mem_taking,mem_begin,h.tk] at hp;obtain⟨⟨y,hy,hm,hf⟩,j,z,hj,htk⟩:=hp;obtain⟨i,hi⟩:=List.getElem?_of_mem hy;have hil:i<ls.length:=by rw [←h.n];exact (List.getElem?_eq_some_iff.1 hi).1
    obtain⟨u,hu⟩:=gx_ ls i hil;obtain⟨pt,g1,g2,-⟩:=h.get i u hu;rw [hi] at g1;cases g1;have hf':=(g2 p).1 hf;have e1:=rg_same hj hk htk.rg hg;subst e1;have e2:=rg_same hu hk hf'.rg hg;subst e2;rw [hk] at hj hu;cases hj;cases hu;exact⟨i,x,hk,hm,p,hf',pa_tp.2 ⟨htk,ht⟩⟩
   ·rintro ⟨k,x,hk,hm,p,hf,hp⟩
    obtain⟨htk,ht⟩:=pa_tp.1 hp;refine⟨p,?_,k,x,hk,hf.rg,ht⟩;obtain⟨pt,g1,g2,-⟩:=h.get k x hk;rw [mem_taking,mem_begin,h.tk];exact⟨⟨x.lp pt,List.mem_of_getElem? g1,hm,(g2 p).2 hf⟩,k,x,hk,htk⟩
  ·intro p hp
   rw [mem_taking,h.tk] at hp;obtain⟨_,k,x,hk,ht⟩:=hp;exact⟨k,x,hk,ht.rg⟩
theorem setW_last (h:Lin ls q) (mode:Int) (w:List Nat) (hw:w≠[]) {k:Nat} {x:Ln} (hk:ls[k]?=some x) :
  (∃p,p∈setW q mode w∧La x.re (base (ls.take k)) p)↔x.mode=mode∧M x.re w:=by
 rw [M_acc x.re (base (ls.take k)) hw]
 constructor
 ·rintro ⟨p,hp,hl⟩
  rw [mem_setW h mode w hw] at hp;obtain⟨j,y,hj,hm,p0,hf,hpa⟩:=hp;have e:=rg_same hj hk hpa.rg.2 hl.rg;subst e;rw [hk] at hj;cases hj;exact⟨hm,p0,p,hf,hl,hpa⟩
 ·rintro ⟨hm,p0,p,hf,hl,hpa⟩
  exact⟨p,(mem_setW h mode w hw p).2 ⟨k,x,hk,hm,p0,hf,hpa⟩,hl⟩
theorem filter_asc {l:List Nat} (f:Nat→Bool) (h:Asc l):Asc (l.filter f):=List.Pairwise.filter f h
theorem begin_inl {ls:List Lp} {n:Nat} (mode:Int) (h:∀x∈ls,PtOK n x.pt):Inl n (beginR ls mode):=by
 have key:∀(ls:List Lp) (acc:List Nat),(∀x∈ls,PtOK n x.pt)→Inl n acc→Inl n (ls.foldl (fun acc x=>if x.mode=mode then un acc x.pt.first else acc) acc):=by
  intro ls
  induction ls with
  | nil=>intro acc _ h;exact h
  | cons x ls ih=>
   intro acc h ha;refine ih _ (fun y hy=>h y (List.mem_cons_of_mem _ hy)) ?_
   show Inl n (if x.mode=mode then un acc x.pt.first else acc);split
   ·exact ha.un (h x (List.mem_cons_self ..)).1
   ·exact ha
 exact key ls [] h (.nil _)
theorem nx_inl {ps:List Pl} (h:PlsOK ps) (p:Nat):Inl ps.length (nx ps p):=by
 unfold nx
 split
 ·rename_i x hx
  exact h x (List.mem_of_getElem? hx)
 ·exact .nil _
theorem behind_inl {ps:List Pl} (h:PlsOK ps) (S:List Nat):Inl ps.length (behindR ps S):=by
 have key:∀(S acc:List Nat),Inl ps.length acc→Inl ps.length (S.foldl (fun acc p=>un acc (nx ps p)) acc):=by
  intro S
  induction S with
  | nil=>intro acc h;exact h
  | cons x S ih=>intro acc ha;exact ih _ (ha.un (nx_inl h x))
 exact key S [] (.nil _)
theorem taking_inl {n:Nat} (ps:List Pl) {l:List Nat} (c:Nat) (h:Inl n l):Inl n (taking ps l c):=⟨filter_asc _ h.1,fun x hx=>h.2 x (List.mem_filter.1 hx).1⟩
theorem goW_inl {ps:List Pl} (h:PlsOK ps):∀(w S:List Nat),Inl ps.length S→Inl ps.length (goW ps S w):=by
 intro w
 induction w with
 | nil=>intro S hS;exact hS
 | cons c w ih=>intro S hS;exact ih _ (taking_inl ps c (behind_inl h S))
theorem Lin.pts (h:Lin ls q):∀x∈q.1,PtOK (base ls) x.pt:=by
 intro x hx
 obtain⟨i,hi⟩:=List.getElem?_of_mem hx
 have hil:i<ls.length:=by rw [←h.n];exact (List.getElem?_eq_some_iff.1 hi).1
 obtain⟨pt,g1,_,_,g4,_⟩:=h.get i _ (List.getElem?_eq_getElem hil)
 rw [hi] at g1
 cases g1
 exact g4
theorem setW_inl (h:Lin ls q) (mode:Int) (w:List Nat):Inl (base ls) (setW q mode w):=by
 cases w with
 | nil=>exact .nil _
 | cons c w=>
  rw [←h.len];refine goW_inl h.ok w _ (taking_inl _ c ?_);rw [h.len];exact begin_inl mode h.pts
theorem firstRule_go (t:List Nat):∀(l:List Lp) (k:Nat),(firstRuleGo t l k=-1∧∀(i:Nat) (x:Lp),l[i]?=some x→meet x.pt.last t=false)∨(∃(i:Nat) (x:Lp),l[i]?=some x∧firstRuleGo t l k=((k+i:Nat):Int)∧meet x.pt.last t=true∧∀(j:Nat) (y:Lp),j<i→l[j]?=some y→meet y.pt.last t=false):=by
 intro l
 induction l with
 | nil=>intro k;exact .inl ⟨rfl,fun i x h=>by simp at h⟩
 | cons x l ih=>
  intro k;unfold firstRuleGo;by_cases hm:meet x.pt.last t=true
  ·rw [if_pos hm]
   exact .inr ⟨0,x,rfl,rfl,hm,fun j y hj=>by omega⟩
  ·rw [if_neg hm]
   have hm':meet x.pt.last t=false:=by simpa using hm
   rcases ih (k+1) with ⟨h1,h2⟩ | ⟨i,y,h1,h2,h3,h4⟩
   ·refine .inl ⟨h1,fun i y hi=>?_⟩
    cases i with
    | zero=>simp at hi;subst hi;exact hm'
    | succ i=>exact h2 i y (by simpa using hi)
   ·refine .inr ⟨i+1,y,by simpa using h1,by rw [h2];congr 1;omega,h3,fun j z hj hz=>?_⟩
    cases j with
    | zero=>simp at hz;subst hz;exact hm'
    | succ j=>exact h4 j z (by omega) (by simpa using hz)
def FirstM (ls:List Ln) (mode:Int) (w:List Nat) (r:Int):Prop:=
 (r=-1∧∀(i:Nat) (x:Ln),ls[i]?=some x→x.mode=mode→¬M x.re w)∨(∃(i:Nat) (x:Ln),r=i∧ls[i]?=some x∧x.mode=mode∧M x.re w∧∀(j:Nat) (y:Ln),j<i→ls[j]?=some y→y.mode=mode→¬M y.re w)
theorem firstRule_spec (h:Lin ls q) (mode:Int) (w:List Nat) (hw:w≠[]):FirstM ls mode w (firstRule q.1 (setW q mode w)):=by
 have sinl:=setW_inl h mode w
 have key:∀(k:Nat) (x:Ln) (y:Lp),ls[k]?=some x→q.1[k]?=some y→(meet y.pt.last (setW q mode w)=true↔x.mode=mode∧M x.re w):=by
  intro k x y hk hy;obtain⟨pt,g1,_,g3,g4,_⟩:=h.get k x hk;rw [hy] at g1;cases g1;rw [←setW_last h mode w hw hk];show meet pt.last _=true↔_;rw [meet_iff _ _ g4.2.1 sinl.1];exact⟨fun ⟨p,a,b⟩=>⟨p,b,(g3 p).1 a⟩,fun ⟨p,a,b⟩=>⟨p,(g3 p).2 b,a⟩⟩
 have get2:∀{k:Nat} {x:Ln},ls[k]?=some x→∃y,q.1[k]?=some y:=by
  intro k x hk;obtain⟨pt,g1,_⟩:=h.get k x hk;exact⟨_,g1⟩
 rcases firstRule_go (setW q mode w) q.1 0 with ⟨h1,h2⟩ | ⟨i,y,h1,h2,h3,h4⟩
 ·refine .inl ⟨h1,fun i x hi hm hM=>?_⟩
  obtain⟨y,hy⟩:=get2 hi;have:=(key i x y hi hy).2 ⟨hm,hM⟩;rw [h2 i y hy] at this;cases this
 ·have hil:i<ls.length:=by rw [←h.n];exact (List.getElem?_eq_some_iff.1 h1).1
  have hx:=List.getElem?_eq_getElem hil;have:=(key i _ y hx h1).1 h3;refine .inr ⟨i,_,by show firstRuleGo _ _ _=_;rw [h2];simp,hx,this.1,this.2,fun j z hj hz hm hM=>?_⟩;obtain⟨y',hy'⟩:=get2 hz;have:=(key j z y' hz hy').2 ⟨hm,hM⟩;rw [h4 j y' hj hy'] at this;cases this
end
end Pure
end Go.Proofs.YtmccnmgaoppogaaGreat
