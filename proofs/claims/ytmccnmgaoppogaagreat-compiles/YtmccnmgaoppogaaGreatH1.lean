/-
 Plain mathematics: the document's nodes of a pattern, and what leads to what among them.
-/
import Derived.Test.YtmccnmgaoppogaaGreatGaA
namespace Go.Proofs.YtmccnmgaoppogaaGreat
namespace Pure
structure Nd where
 kind:Nat
 l:Nat
 r:Nat
 inn:Nat→Bool
def Re.size:Re→Nat
 | .pl _=>1
 | .cat a b=>a.size+b.size+1
 | .alt a b=>a.size+b.size+1
 | .star a=>a.size+1
 | .plus a=>a.size+1
 | .opt a=>a.size+1
theorem Re.size_pos (re:Re):0<re.size:=by cases re <;> simp [Re.size]
def nodes:Re→Nat→List Nd
 | .pl T,_=>[⟨1,0,0,T⟩]
 | .cat a b,m=>nodes a m++nodes b (m+a.size)++[⟨2,m+a.size-1,m+a.size+b.size-1,noneB⟩]
 | .alt a b,m=>nodes a m++nodes b (m+a.size)++[⟨3,m+a.size-1,m+a.size+b.size-1,noneB⟩]
 | .star a,m=>nodes a m++[⟨4,m+a.size-1,0,noneB⟩]
 | .plus a,m=>nodes a m++[⟨5,m+a.size-1,0,noneB⟩]
 | .opt a,m=>nodes a m++[⟨6,m+a.size-1,0,noneB⟩]
theorem nodes_length (re:Re):∀m,(nodes re m).length=re.size:=by
 induction re with
 | pl T=>intro m;rfl
 | cat a b iha ihb=>intro m;simp [nodes,iha,ihb,Re.size];omega
 | alt a b iha ihb=>intro m;simp [nodes,iha,ihb,Re.size];omega
 | star a ih=>intro m;simp [nodes,ih,Re.size]
 | plus a ih=>intro m;simp [nodes,ih,Re.size]
 | opt a ih=>intro m;simp [nodes,ih,Re.size]
def At (ns:List Nd) (re:Re) (m:Nat):Prop:=∀i x,(nodes re m)[i]?=some x→ns[m+i]?=some x
theorem At.left {ns b c:List Nd} {a:Re} {m:Nat} (h:∀i x,(nodes a m++b++c)[i]?=some x→ns[m+i]?=some x):At ns a m:=by
 intro i x hi
 have hl:i<(nodes a m).length:=(List.getElem?_eq_some_iff.1 hi).1
 exact h i x (by rw [List.append_assoc,List.getElem?_append_left hl];exact hi)
theorem At.right {ns a c:List Nd} {b:Re} {m k:Nat} (ha:a.length=k) (h:∀i x,(a++nodes b (m+k)++c)[i]?=some x→ns[m+i]?=some x):At ns b (m+k):=by
 intro i x hi
 have hl:i<(nodes b (m+k)).length:=(List.getElem?_eq_some_iff.1 hi).1
 have:=h (k+i) x (by rw [List.append_assoc,List.getElem?_append_right (by omega),ha,show k+i-k=i by omega,List.getElem?_append_left hl];exact hi)
 rwa [←Nat.add_assoc] at this
theorem At.root {ns:List Nd} {re:Re} {m:Nat} (h:At ns re m):∃x,(nodes re m)[re.size-1]?=some x∧ns[m+re.size-1]?=some x:=by
 have hp:=re.size_pos
 have hl:re.size-1<(nodes re m).length:=by rw [nodes_length];omega
 refine⟨_,List.getElem?_eq_getElem hl,?_⟩
 have:=h _ _ (List.getElem?_eq_getElem hl)
 rwa [show m+(re.size-1)=m+re.size-1 by omega] at this
def fiN:Re→Nat→Nat→Bool
 | .pl _,m,k=>decide (k=m)
 | .cat a b,m,k=>fiN a m k || (a.empt && fiN b (m+a.size) k)
 | .alt a b,m,k=>fiN a m k || fiN b (m+a.size) k
 | .star a,m,k=>fiN a m k
 | .plus a,m,k=>fiN a m k
 | .opt a,m,k=>fiN a m k
def laN:Re→Nat→Nat→Bool
 | .pl _,m,k=>decide (k=m)
 | .cat a b,m,k=>laN b (m+a.size) k || (b.empt && laN a m k)
 | .alt a b,m,k=>laN a m k || laN b (m+a.size) k
 | .star a,m,k=>laN a m k
 | .plus a,m,k=>laN a m k
 | .opt a,m,k=>laN a m k
def foN:Re→Nat→Nat→Nat→Bool
 | .pl _,_,_,_=>false
 | .cat a b,m,i,k=>foN a m i k || foN b (m+a.size) i k || (laN a m i && fiN b (m+a.size) k)
 | .alt a b,m,i,k=>foN a m i k || foN b (m+a.size) i k
 | .star a,m,i,k=>foN a m i k || (laN a m i && fiN a m k)
 | .plus a,m,i,k=>foN a m i k || (laN a m i && fiN a m k)
 | .opt a,m,i,k=>foN a m i k
def nu:Re→Nat→Nat→Nat→Nat
 | .pl _,_,m,_=>m
 | .cat a b,n,m,p=>if p<n+a.leaves then nu a n m p else nu b (n+a.leaves) (m+a.size) p
 | .alt a b,n,m,p=>if p<n+a.leaves then nu a n m p else nu b (n+a.leaves) (m+a.size) p
 | .star a,n,m,p=>nu a n m p
 | .plus a,n,m,p=>nu a n m p
 | .opt a,n,m,p=>nu a n m p
theorem Re.leaves_pos (re:Re):0<re.leaves:=by
 induction re with
 | pl T=>simp [Re.leaves]
 | cat a b _ _=>simp only [Re.leaves];omega
 | alt a b _ _=>simp only [Re.leaves];omega
 | star a ih=>exact ih
 | plus a ih=>exact ih
 | opt a ih=>exact ih
theorem nu_rg (re:Re):∀{n m p:Nat},Rg re n p→m≤nu re n m p∧nu re n m p<m+re.size:=by
 unfold Rg
 induction re with
 | pl T=>intro n m p h;simp [nu,Re.size]
 | cat a b iha ihb=>
  intro n m p h;simp only [Re.leaves,Re.size,nu] at *;split
  ·have:=@iha n m p (by omega);omega
  ·have:=@ihb (n+a.leaves) (m+a.size) p (by omega);omega
 | alt a b iha ihb=>
  intro n m p h;simp only [Re.leaves,Re.size,nu] at *;split
  ·have:=@iha n m p (by omega);omega
  ·have:=@ihb (n+a.leaves) (m+a.size) p (by omega);omega
 | star a ih=>intro n m p h;have:=@ih n m p h;simp only [Re.size,nu];omega
 | plus a ih=>intro n m p h;have:=@ih n m p h;simp only [Re.size,nu];omega
 | opt a ih=>intro n m p h;have:=@ih n m p h;simp only [Re.size,nu];omega
theorem nu_lt (re:Re):∀{n m p q:Nat},Rg re n p→Rg re n q→p<q→nu re n m p<nu re n m q:=by
 induction re with
 | pl T=>intro n m p q h h' hl;simp only [Rg,Re.leaves] at *;omega
 | cat a b iha ihb=>
  intro n m p q h h' hl;simp only [Rg,Re.leaves] at h h';simp only [nu];by_cases h1:p<n+a.leaves
  ·rw [if_pos h1]
   by_cases h2:q<n+a.leaves
   ·rw [if_pos h2]
    exact iha ⟨h.1,h1⟩ ⟨h'.1,h2⟩ hl
   ·rw [if_neg h2]
    have x:=@nu_rg a n m p ⟨h.1,h1⟩
    have y:=@nu_rg b (n+a.leaves) (m+a.size) q ⟨by omega,by omega⟩
    omega
  ·rw [if_neg h1,if_neg (by omega)]
   exact ihb ⟨by omega,by omega⟩ ⟨by omega,by omega⟩ hl
 | alt a b iha ihb=>
  intro n m p q h h' hl;simp only [Rg,Re.leaves] at h h';simp only [nu];by_cases h1:p<n+a.leaves
  ·rw [if_pos h1]
   by_cases h2:q<n+a.leaves
   ·rw [if_pos h2]
    exact iha ⟨h.1,h1⟩ ⟨h'.1,h2⟩ hl
   ·rw [if_neg h2]
    have x:=@nu_rg a n m p ⟨h.1,h1⟩
    have y:=@nu_rg b (n+a.leaves) (m+a.size) q ⟨by omega,by omega⟩
    omega
  ·rw [if_neg h1,if_neg (by omega)]
   exact ihb ⟨by omega,by omega⟩ ⟨by omega,by omega⟩ hl
 | star a ih=>intro n m p q h h' hl;exact ih h h' hl
 | plus a ih=>intro n m p q h h' hl;exact ih h h' hl
 | opt a ih=>intro n m p q h h' hl;exact ih h h' hl
theorem nu_inj (re:Re) {n m p q:Nat} (h:Rg re n p) (h':Rg re n q) (e:nu re n m p=nu re n m q):p=q:=by
 rcases Nat.lt_trichotomy p q with k | k | k
 ·have:=nu_lt re (m:=m) h h' k;omega
 ·exact k
 ·have:=nu_lt re (m:=m) h' h k;omega
theorem rg_left {a:Re} {n p:Nat} (h:Rg a n p):p<n+a.leaves:=h.2
theorem nu_cat1 {a:Re} (b:Re) {n m p:Nat} (h:Rg a n p):nu (.cat a b) n m p=nu a n m p:=by simp only [nu];rw [if_pos h.2]
theorem nu_cat2 (a:Re) {b:Re} {n m p:Nat} (h:Rg b (n+a.leaves) p):nu (.cat a b) n m p=nu b (n+a.leaves) (m+a.size) p:=by simp only [nu];rw [if_neg (by have:=h.1;omega)]
theorem nu_alt1 {a:Re} (b:Re) {n m p:Nat} (h:Rg a n p):nu (.alt a b) n m p=nu a n m p:=by simp only [nu];rw [if_pos h.2]
theorem nu_alt2 (a:Re) {b:Re} {n m p:Nat} (h:Rg b (n+a.leaves) p):nu (.alt a b) n m p=nu b (n+a.leaves) (m+a.size) p:=by simp only [nu];rw [if_neg (by have:=h.1;omega)]
theorem fiN_iff (re:Re):∀(n m k:Nat),fiN re m k=true↔∃p,Fi re n p∧nu re n m p=k:=by
 induction re with
 | pl T=>intro n m k;simp [fiN,Fi,nu,eq_comm]
 | cat a b iha ihb=>
  intro n m k;simp only [fiN,Bool.or_eq_true,Bool.and_eq_true,iha n m k,ihb (n+a.leaves) (m+a.size) k];constructor
  ·rintro (⟨p,h1,h2⟩ | ⟨he,p,h1,h2⟩)
   ·exact⟨p,.inl h1,by rw [nu_cat1 b h1.rg];exact h2⟩
   ·exact⟨p,.inr ⟨he,h1⟩,by rw [nu_cat2 a h1.rg];exact h2⟩
  ·rintro ⟨p,h1 | ⟨he,h1⟩,h2⟩
   ·rw [nu_cat1 b h1.rg] at h2
    exact .inl ⟨p,h1,h2⟩
   ·rw [nu_cat2 a h1.rg] at h2
    exact .inr ⟨he,p,h1,h2⟩
 | alt a b iha ihb=>
  intro n m k;simp only [fiN,Bool.or_eq_true,iha n m k,ihb (n+a.leaves) (m+a.size) k];constructor
  ·rintro (⟨p,h1,h2⟩ | ⟨p,h1,h2⟩)
   ·exact⟨p,.inl h1,by rw [nu_alt1 b h1.rg];exact h2⟩
   ·exact⟨p,.inr h1,by rw [nu_alt2 a h1.rg];exact h2⟩
  ·rintro ⟨p,h1 | h1,h2⟩
   ·rw [nu_alt1 b h1.rg] at h2
    exact .inl ⟨p,h1,h2⟩
   ·rw [nu_alt2 a h1.rg] at h2
    exact .inr ⟨p,h1,h2⟩
 | star a ih=>intro n m k;exact ih n m k
 | plus a ih=>intro n m k;exact ih n m k
 | opt a ih=>intro n m k;exact ih n m k
theorem laN_iff (re:Re):∀(n m k:Nat),laN re m k=true↔∃p,La re n p∧nu re n m p=k:=by
 induction re with
 | pl T=>intro n m k;simp [laN,La,nu,eq_comm]
 | cat a b iha ihb=>
  intro n m k;simp only [laN,Bool.or_eq_true,Bool.and_eq_true,iha n m k,ihb (n+a.leaves) (m+a.size) k];constructor
  ·rintro (⟨p,h1,h2⟩ | ⟨he,p,h1,h2⟩)
   ·exact⟨p,.inl h1,by rw [nu_cat2 a h1.rg];exact h2⟩
   ·exact⟨p,.inr ⟨he,h1⟩,by rw [nu_cat1 b h1.rg];exact h2⟩
  ·rintro ⟨p,h1 | ⟨he,h1⟩,h2⟩
   ·rw [nu_cat2 a h1.rg] at h2
    exact .inl ⟨p,h1,h2⟩
   ·rw [nu_cat1 b h1.rg] at h2
    exact .inr ⟨he,p,h1,h2⟩
 | alt a b iha ihb=>
  intro n m k;simp only [laN,Bool.or_eq_true,iha n m k,ihb (n+a.leaves) (m+a.size) k];constructor
  ·rintro (⟨p,h1,h2⟩ | ⟨p,h1,h2⟩)
   ·exact⟨p,.inl h1,by rw [nu_alt1 b h1.rg];exact h2⟩
   ·exact⟨p,.inr h1,by rw [nu_alt2 a h1.rg];exact h2⟩
  ·rintro ⟨p,h1 | h1,h2⟩
   ·rw [nu_alt1 b h1.rg] at h2
    exact .inl ⟨p,h1,h2⟩
   ·rw [nu_alt2 a h1.rg] at h2
    exact .inr ⟨p,h1,h2⟩
 | star a ih=>intro n m k;exact ih n m k
 | plus a ih=>intro n m k;exact ih n m k
 | opt a ih=>intro n m k;exact ih n m k
theorem both_iff {a b:Re} {n n' m m' i k:Nat}:(laN a m i=true∧fiN b m' k=true)↔∃p q,(La a n p∧Fi b n' q)∧nu a n m p=i∧nu b n' m' q=k:=by
 rw [laN_iff a n m i,fiN_iff b n' m' k]
 exact⟨fun ⟨⟨p,h1,h2⟩,q,h3,h4⟩=>⟨p,q,⟨h1,h3⟩,h2,h4⟩,fun ⟨p,q,⟨h1,h3⟩,h2,h4⟩=>⟨⟨p,h1,h2⟩,q,h3,h4⟩⟩
theorem foN_iff (re:Re):∀(n m i k:Nat),foN re m i k=true↔∃p q,Fo re n p q∧nu re n m p=i∧nu re n m q=k:=by
 induction re with
 | pl T=>intro n m i k;simp [foN,Fo]
 | cat a b iha ihb=>
  intro n m i k;simp only [foN,Bool.or_eq_true,Bool.and_eq_true,iha n m i k,ihb (n+a.leaves) (m+a.size) i k];rw [both_iff (n:=n) (n':=n+a.leaves)];constructor
  ·rintro ((⟨p,q,h,h1,h2⟩ | ⟨p,q,h,h1,h2⟩) | ⟨p,q,h,h1,h2⟩)
   ·exact⟨p,q,.inl h,by rw [nu_cat1 b h.rg.1];exact h1,by rw [nu_cat1 b h.rg.2];exact h2⟩
   ·exact⟨p,q,.inr (.inl h),by rw [nu_cat2 a h.rg.1];exact h1,by rw [nu_cat2 a h.rg.2];exact h2⟩
   ·exact⟨p,q,.inr (.inr h),by rw [nu_cat1 b h.1.rg];exact h1,by rw [nu_cat2 a h.2.rg];exact h2⟩
  ·rintro ⟨p,q,h | h | h,h1,h2⟩
   ·rw [nu_cat1 b h.rg.1] at h1
    rw [nu_cat1 b h.rg.2] at h2;exact .inl (.inl ⟨p,q,h,h1,h2⟩)
   ·rw [nu_cat2 a h.rg.1] at h1
    rw [nu_cat2 a h.rg.2] at h2;exact .inl (.inr ⟨p,q,h,h1,h2⟩)
   ·rw [nu_cat1 b h.1.rg] at h1
    rw [nu_cat2 a h.2.rg] at h2;exact .inr ⟨p,q,h,h1,h2⟩
 | alt a b iha ihb=>
  intro n m i k;simp only [foN,Bool.or_eq_true,iha n m i k,ihb (n+a.leaves) (m+a.size) i k];constructor
  ·rintro (⟨p,q,h,h1,h2⟩ | ⟨p,q,h,h1,h2⟩)
   ·exact⟨p,q,.inl h,by rw [nu_alt1 b h.rg.1];exact h1,by rw [nu_alt1 b h.rg.2];exact h2⟩
   ·exact⟨p,q,.inr h,by rw [nu_alt2 a h.rg.1];exact h1,by rw [nu_alt2 a h.rg.2];exact h2⟩
  ·rintro ⟨p,q,h | h,h1,h2⟩
   ·rw [nu_alt1 b h.rg.1] at h1
    rw [nu_alt1 b h.rg.2] at h2;exact .inl ⟨p,q,h,h1,h2⟩
   ·rw [nu_alt2 a h.rg.1] at h1
    rw [nu_alt2 a h.rg.2] at h2;exact .inr ⟨p,q,h,h1,h2⟩
 | star a ih=>
  intro n m i k;simp only [foN,Bool.or_eq_true,Bool.and_eq_true,ih n m i k];rw [both_iff (n:=n) (n':=n)];constructor
  ·rintro (⟨p,q,h,h1,h2⟩ | ⟨p,q,h,h1,h2⟩)
   ·exact⟨p,q,.inl h,h1,h2⟩
   ·exact⟨p,q,.inr h,h1,h2⟩
  ·rintro ⟨p,q,h | h,h1,h2⟩
   ·exact .inl ⟨p,q,h,h1,h2⟩
   ·exact .inr ⟨p,q,h,h1,h2⟩
 | plus a ih=>
  intro n m i k;simp only [foN,Bool.or_eq_true,Bool.and_eq_true,ih n m i k];rw [both_iff (n:=n) (n':=n)];constructor
  ·rintro (⟨p,q,h,h1,h2⟩ | ⟨p,q,h,h1,h2⟩)
   ·exact⟨p,q,.inl h,h1,h2⟩
   ·exact⟨p,q,.inr h,h1,h2⟩
  ·rintro ⟨p,q,h | h,h1,h2⟩
   ·exact .inl ⟨p,q,h,h1,h2⟩
   ·exact .inr ⟨p,q,h,h1,h2⟩
 | opt a ih=>intro n m i k;exact ih n m i k
theorem nodes_tk (re:Re):∀(n m c p:Nat),Rg re n p→∃T,(nodes re m)[nu re n m p-m]?=some ⟨1,0,0,T⟩∧(Tk re n p c↔T c=true):=by
 induction re with
 | pl T=>
  intro n m c p h;refine⟨T,by simp [nodes,nu],?_⟩;simp only [Rg,Re.leaves] at h;have e:p=n:=by omega
  simp [Tk,e]
 | cat a b iha ihb=>
  intro n m c p h;simp only [Rg,Re.leaves] at h;by_cases h1:p<n+a.leaves
  ·have hr:Rg a n p:=⟨h.1,h1⟩
   obtain⟨T,g1,g2⟩:=iha n m c p hr;have hl:nu a n m p-m<(nodes a m).length:=(List.getElem?_eq_some_iff.1 g1).1;refine⟨T,?_,?_⟩
   ·rw [nu_cat1 b hr]
    show (nodes a m++_++_)[_]?=_;rw [List.append_assoc,List.getElem?_append_left hl];exact g1
   ·rw [←g2]
    exact⟨fun k=>k.elim id (fun k=>absurd k.rg.1 (by omega)),.inl⟩
  ·have hr:Rg b (n+a.leaves) p:=⟨by omega,by omega⟩
   obtain⟨T,g1,g2⟩:=ihb (n+a.leaves) (m+a.size) c p hr;have hl:nu b (n+a.leaves) (m+a.size) p-(m+a.size)<(nodes b (m+a.size)).length:=(List.getElem?_eq_some_iff.1 g1).1
   have hg:=@nu_rg b (n+a.leaves) (m+a.size) p hr
   refine⟨T,?_,?_⟩
   ·rw [nu_cat2 a hr]
    show (nodes a m++_++_)[_]?=_;rw [List.append_assoc,List.getElem?_append_right (by rw [nodes_length];omega),nodes_length,show nu b (n+a.leaves) (m+a.size) p-m-a.size=nu b (n+a.leaves) (m+a.size) p-(m+a.size) by omega,List.getElem?_append_left hl];exact g1
   ·rw [←g2]
    exact⟨fun k=>k.elim (fun k=>absurd k.rg.2 (by omega)) id,.inr⟩
 | alt a b iha ihb=>
  intro n m c p h;simp only [Rg,Re.leaves] at h;by_cases h1:p<n+a.leaves
  ·have hr:Rg a n p:=⟨h.1,h1⟩
   obtain⟨T,g1,g2⟩:=iha n m c p hr;have hl:nu a n m p-m<(nodes a m).length:=(List.getElem?_eq_some_iff.1 g1).1;refine⟨T,?_,?_⟩
   ·rw [nu_alt1 b hr]
    show (nodes a m++_++_)[_]?=_;rw [List.append_assoc,List.getElem?_append_left hl];exact g1
   ·rw [←g2]
    exact⟨fun k=>k.elim id (fun k=>absurd k.rg.1 (by omega)),.inl⟩
  ·have hr:Rg b (n+a.leaves) p:=⟨by omega,by omega⟩
   obtain⟨T,g1,g2⟩:=ihb (n+a.leaves) (m+a.size) c p hr;have hl:nu b (n+a.leaves) (m+a.size) p-(m+a.size)<(nodes b (m+a.size)).length:=(List.getElem?_eq_some_iff.1 g1).1
   have hg:=@nu_rg b (n+a.leaves) (m+a.size) p hr
   refine⟨T,?_,?_⟩
   ·rw [nu_alt2 a hr]
    show (nodes a m++_++_)[_]?=_;rw [List.append_assoc,List.getElem?_append_right (by rw [nodes_length];omega),nodes_length,show nu b (n+a.leaves) (m+a.size) p-m-a.size=nu b (n+a.leaves) (m+a.size) p-(m+a.size) by omega,List.getElem?_append_left hl];exact g1
   ·rw [←g2]
    exact⟨fun k=>k.elim (fun k=>absurd k.rg.2 (by omega)) id,.inr⟩
 | star a ih=>
  intro n m c p h;obtain⟨T,g1,g2⟩:=ih n m c p h;have hl:nu a n m p-m<(nodes a m).length:=(List.getElem?_eq_some_iff.1 g1).1;exact⟨T,by show (nodes a m++_)[nu a n m p-m]?=_;rw [List.getElem?_append_left hl];exact g1,g2⟩
 | plus a ih=>
  intro n m c p h;obtain⟨T,g1,g2⟩:=ih n m c p h;have hl:nu a n m p-m<(nodes a m).length:=(List.getElem?_eq_some_iff.1 g1).1;exact⟨T,by show (nodes a m++_)[nu a n m p-m]?=_;rw [List.getElem?_append_left hl];exact g1,g2⟩
 | opt a ih=>
  intro n m c p h;obtain⟨T,g1,g2⟩:=ih n m c p h;have hl:nu a n m p-m<(nodes a m).length:=(List.getElem?_eq_some_iff.1 g1).1;exact⟨T,by show (nodes a m++_)[nu a n m p-m]?=_;rw [List.getElem?_append_left hl];exact g1,g2⟩
end Pure
end Go.Proofs.YtmccnmgaoppogaaGreat
