import Derived.Test.YtmccnmgaoppogaaGreatGaA
import Derived.Test.YtmccnmgaoppogaaGreatKah
namespace Go.Proofs.YtmccnmgaoppogaaGreat
open Pu
set_option linter.all false
set_option maxRecDepth 100000
set_option maxHeartbeats 8000000
variable {a b:aM} {m n p:Nat} {xs:List V_}
namespace Pu
structure aF where
 kind:Nat
 l:Nat
 r:Nat
 inn:Nat->Bool
def aM.size:aM->Nat
 | .pl _=>1
 | .cat a b=>a.size+b.size+1
 | .alt a b=>a.size+b.size+1
 | .star a=>a.size+1
 | .plus a=>a.size+1
 | .opt a=>a.size+1
theorem aM.size_pos (re:aM):0<re.size:=by cases re <;> simp [aM.size]
def nodes:aM->Nat->List aF
 | .pl T,_=>[⟨1,0,0,T⟩]
 | .cat a b,m=>nodes a m++nodes b (m+a.size)++[⟨2,m+a.size-1,m+a.size+b.size-1,dP⟩]
 | .alt a b,m=>nodes a m++nodes b (m+a.size)++[⟨3,m+a.size-1,m+a.size+b.size-1,dP⟩]
 | .star a,m=>nodes a m++[⟨4,m+a.size-1,0,dP⟩]
 | .plus a,m=>nodes a m++[⟨5,m+a.size-1,0,dP⟩]
 | .opt a,m=>nodes a m++[⟨6,m+a.size-1,0,dP⟩]
theorem bR (re:aM):∀m,(nodes re m).length=re.size:=by
 induction re with
 | pl T=>intro m;rfl
 | cat a b iha ihb=>intro m;simp [nodes,iha,ihb,aM.size];omega
 | alt a b iha ihb=>intro m;simp [nodes,iha,ihb,aM.size];omega
 | star a ih=>intro m;simp [nodes,ih,aM.size]
 | plus a ih=>intro m;simp [nodes,ih,aM.size]
 | opt a ih=>intro m;simp [nodes,ih,aM.size]
def ag (ns:List aF) (re:aM) (m:Nat):Prop:=∀i x,(nodes re m)[i]?=some x->ns[m+i]?=some x
theorem ag.left {ns b c:List aF} (h:∀i x,(nodes a m++b++c)[i]?=some x->ns[m+i]?=some x):ag ns a m:=by intro i x hi;have hl:i<(nodes a m).length:=(ge_.1 hi).1;exact h i x (by rw [aa_,al_ hl];exact hi)
theorem ag.right {ns a c:List aF} {k:Nat} (ha:a.length=k) (h:∀i x,(a++nodes b (m+k)++c)[i]?=some x->ns[m+i]?=some x):ag ns b (m+k):=by intro i x hi;have hl:i<(nodes b (m+k)).length:=(ge_.1 hi).1;have:=h (k+i) x (by rw [aa_,ar_ (by omega),ha,show k+i-k=i by omega,al_ hl];exact hi);rwa [<-Nat.add_assoc] at this
theorem ag.root {ns:List aF} {re:aM} (h:ag ns re m):∃x,(nodes re m)[re.size-1]?=some x/\ns[m+re.size-1]?=some x:=by
 have hp:=re.size_pos;have hl:re.size-1<(nodes re m).length:=by rw [bR];omega
 refine⟨_,gg_ hl,?_⟩;have:=h _ _ (gg_ hl);rwa [show m+(re.size-1)=m+re.size-1 by omega] at this
def Gy:aM->Nat->Nat->Bool
 | .pl _,m,k=>decide (k=m)
 | .cat a b,m,k=>Gy a m k || (a.iM && Gy b (m+a.size) k)
 | .alt a b,m,k=>Gy a m k || Gy b (m+a.size) k
 | .star a,m,k=>Gy a m k
 | .plus a,m,k=>Gy a m k
 | .opt a,m,k=>Gy a m k
def Ko:aM->Nat->Nat->Bool
 | .pl _,m,k=>decide (k=m)
 | .cat a b,m,k=>Ko b (m+a.size) k || (b.iM && Ko a m k)
 | .alt a b,m,k=>Ko a m k || Ko b (m+a.size) k
 | .star a,m,k=>Ko a m k
 | .plus a,m,k=>Ko a m k
 | .opt a,m,k=>Ko a m k
def CU:aM->Nat->Nat->Nat->Bool
 | .pl _,_,_,_=>false
 | .cat a b,m,i,k=>CU a m i k || CU b (m+a.size) i k || (Ko a m i && Gy b (m+a.size) k)
 | .alt a b,m,i,k=>CU a m i k || CU b (m+a.size) i k
 | .star a,m,i,k=>CU a m i k || (Ko a m i && Gy a m k)
 | .plus a,m,i,k=>CU a m i k || (Ko a m i && Gy a m k)
 | .opt a,m,i,k=>CU a m i k
def nu:aM->Nat->Nat->Nat->Nat
 | .pl _,_,m,_=>m
 | .cat a b,n,m,p=>if p<n+a.leaves then nu a n m p else nu b (n+a.leaves) (m+a.size) p
 | .alt a b,n,m,p=>if p<n+a.leaves then nu a n m p else nu b (n+a.leaves) (m+a.size) p
 | .star a,n,m,p=>nu a n m p
 | .plus a,n,m,p=>nu a n m p
 | .opt a,n,m,p=>nu a n m p
theorem aM.uX (re:aM):0<re.leaves:=by
 induction re with
 | pl T=>simp [aM.leaves]
 | cat a b _ _=>simp only [aM.leaves];omega
 | alt a b _ _=>simp only [aM.leaves];omega
 | star a ih=>exact ih
 | plus a ih=>exact ih
 | opt a ih=>exact ih
theorem BU (re:aM):∀{n m p:Nat},Rg re n p->m<=nu re n m p/\nu re n m p<m+re.size:=by
 unfold Rg
 induction re with
 | pl T=>intro n m p h;simp [nu,aM.size]
 | cat a b iha ihb=>?_
 | alt a b iha ihb=>?_
 | star a ih=>intro n m p h;have:=@ih n m p h;simp only [aM.size,nu];omega
 | plus a ih=>intro n m p h;have:=@ih n m p h;simp only [aM.size,nu];omega
 | opt a ih=>intro n m p h;have:=@ih n m p h;simp only [aM.size,nu];omega
 all_goals
  intro n m p h;simp only [aM.leaves,aM.size,nu] at *;split
  .have:=@iha n m p (by omega);omega
  .have:=@ihb (n+a.leaves) (m+a.size) p (by omega);omega
theorem adA (re:aM):∀{n m p q:Nat},Rg re n p->Rg re n q->p<q->nu re n m p<nu re n m q:=by
 induction re with
 | pl T=>intro n m p q h h' hl;simp only [Rg,aM.leaves] at *;omega
 | cat a b iha ihb=>?_
 | alt a b iha ihb=>?_
 | star a ih=>intro n m p q h h' hl;exact ih h h' hl
 | plus a ih=>intro n m p q h h' hl;exact ih h h' hl
 | opt a ih=>intro n m p q h h' hl;exact ih h h' hl
 all_goals
  intro n m p q h h' hl;simp only [Rg,aM.leaves] at h h';simp only [nu];by_cases h1:p<n+a.leaves
  .rw [if_pos h1];by_cases h2:q<n+a.leaves
   .rw [if_pos h2];exact iha ⟨h.1,h1⟩ ⟨h'.1,h2⟩ hl
   .rw [if_neg h2]
    have x:=@BU a n m p ⟨h.1,h1⟩
    have y:=@BU b (n+a.leaves) (m+a.size) q ⟨by omega,by omega⟩
    omega
  .rw [if_neg h1,if_neg (by omega)];exact ihb ⟨by omega,by omega⟩ ⟨by omega,by omega⟩ hl
theorem aeM (re:aM) {q:Nat} (h:Rg re n p) (h':Rg re n q) (e:nu re n m p=nu re n m q):p=q:=by
 rcases Nat.lt_trichotomy p q with k | k | k
 .have:=adA re (m:=m) h h' k;omega
 .exact k
 .have:=adA re (m:=m) h' h k;omega
theorem pR (b:aM) (h:Rg a n p):nu (.cat a b) n m p=nu a n m p:=by simp only [nu];rw [if_pos h.2]
theorem pU (a:aM) (h:Rg b (n+a.leaves) p):nu (.cat a b) n m p=nu b (n+a.leaves) (m+a.size) p:=by simp only [nu];rw [if_neg (by have:=h.1;omega)]
theorem qQ (b:aM) (h:Rg a n p):nu (.alt a b) n m p=nu a n m p:=by simp only [nu];rw [if_pos h.2]
theorem qR (a:aM) (h:Rg b (n+a.leaves) p):nu (.alt a b) n m p=nu b (n+a.leaves) (m+a.size) p:=by simp only [nu];rw [if_neg (by have:=h.1;omega)]
theorem Su (re:aM):∀(n m k:Nat),Gy re m k=true↔∃p,Fi re n p/\nu re n m p=k:=by
 induction re with
 | pl T=>intro n m k;simp [Gy,Fi,nu,eq_comm]
 | cat a b iha ihb=>
  intro n m k;simp only [Gy,Bool.or_eq_true,Bool.and_eq_true,iha n m k,ihb (n+a.leaves) (m+a.size) k];constructor
  .rintro (⟨p,h1,h2⟩ | ⟨he,p,h1,h2⟩)
   .exact⟨p,.inl h1,by rw [pR b h1.rg];exact h2⟩
   .exact⟨p,.inr ⟨he,h1⟩,by rw [pU a h1.rg];exact h2⟩
  .rintro ⟨p,h1 | ⟨he,h1⟩,h2⟩
   .rw [pR b h1.rg] at h2;exact .inl ⟨p,h1,h2⟩
   .rw [pU a h1.rg] at h2;exact .inr ⟨he,p,h1,h2⟩
 | alt a b iha ihb=>
  intro n m k;simp only [Gy,Bool.or_eq_true,iha n m k,ihb (n+a.leaves) (m+a.size) k];constructor
  .rintro (⟨p,h1,h2⟩ | ⟨p,h1,h2⟩)
   .exact⟨p,.inl h1,by rw [qQ b h1.rg];exact h2⟩
   .exact⟨p,.inr h1,by rw [qR a h1.rg];exact h2⟩
  .rintro ⟨p,h1 | h1,h2⟩
   .rw [qQ b h1.rg] at h2;exact .inl ⟨p,h1,h2⟩
   .rw [qR a h1.rg] at h2;exact .inr ⟨p,h1,h2⟩
 | star a ih=>intro n m k;exact ih n m k
 | plus a ih=>intro n m k;exact ih n m k
 | opt a ih=>intro n m k;exact ih n m k
theorem ab9 (re:aM):∀(n m k:Nat),Ko re m k=true↔∃p,La re n p/\nu re n m p=k:=by
 induction re with
 | pl T=>intro n m k;simp [Ko,La,nu,eq_comm]
 | cat a b iha ihb=>
  intro n m k;simp only [Ko,Bool.or_eq_true,Bool.and_eq_true,iha n m k,ihb (n+a.leaves) (m+a.size) k];constructor
  .rintro (⟨p,h1,h2⟩ | ⟨he,p,h1,h2⟩)
   .exact⟨p,.inl h1,by rw [pU a h1.rg];exact h2⟩
   .exact⟨p,.inr ⟨he,h1⟩,by rw [pR b h1.rg];exact h2⟩
  .rintro ⟨p,h1 | ⟨he,h1⟩,h2⟩
   .rw [pU a h1.rg] at h2;exact .inl ⟨p,h1,h2⟩
   .rw [pR b h1.rg] at h2;exact .inr ⟨he,p,h1,h2⟩
 | alt a b iha ihb=>
  intro n m k;simp only [Ko,Bool.or_eq_true,iha n m k,ihb (n+a.leaves) (m+a.size) k];constructor
  .rintro (⟨p,h1,h2⟩ | ⟨p,h1,h2⟩)
   .exact⟨p,.inl h1,by rw [qQ b h1.rg];exact h2⟩
   .exact⟨p,.inr h1,by rw [qR a h1.rg];exact h2⟩
  .rintro ⟨p,h1 | h1,h2⟩
   .rw [qQ b h1.rg] at h2;exact .inl ⟨p,h1,h2⟩
   .rw [qR a h1.rg] at h2;exact .inr ⟨p,h1,h2⟩
 | star a ih=>intro n m k;exact ih n m k
 | plus a ih=>intro n m k;exact ih n m k
 | opt a ih=>intro n m k;exact ih n m k
theorem Lj {n' m' i k:Nat}:(Ko a m i=true/\Gy b m' k=true)↔∃p q,(La a n p/\Fi b n' q)/\nu a n m p=i/\nu b n' m' q=k:=by rw [ab9 a n m i,Su b n' m' k];exact⟨fun ⟨⟨p,h1,h2⟩,q,h3,h4⟩=>⟨p,q,⟨h1,h3⟩,h2,h4⟩,fun ⟨p,q,⟨h1,h3⟩,h2,h4⟩=>⟨⟨p,h1,h2⟩,q,h3,h4⟩⟩
theorem abJ (re:aM):∀(n m i k:Nat),CU re m i k=true↔∃p q,Fo re n p q/\nu re n m p=i/\nu re n m q=k:=by
 induction re with
 | pl T=>intro n m i k;simp [CU,Fo]
 | cat a b iha ihb=>
  intro n m i k;simp only [CU,Bool.or_eq_true,Bool.and_eq_true,iha n m i k,ihb (n+a.leaves) (m+a.size) i k];rw [Lj (n:=n) (n':=n+a.leaves)];constructor
  .rintro ((⟨p,q,h,h1,h2⟩ | ⟨p,q,h,h1,h2⟩) | ⟨p,q,h,h1,h2⟩)
   .exact⟨p,q,.inl h,by rw [pR b h.rg.1];exact h1,by rw [pR b h.rg.2];exact h2⟩
   .exact⟨p,q,.inr (.inl h),by rw [pU a h.rg.1];exact h1,by rw [pU a h.rg.2];exact h2⟩
   .exact⟨p,q,.inr (.inr h),by rw [pR b h.1.rg];exact h1,by rw [pU a h.2.rg];exact h2⟩
  .rintro ⟨p,q,h | h | h,h1,h2⟩
   .rw [pR b h.rg.1] at h1;rw [pR b h.rg.2] at h2;exact .inl (.inl ⟨p,q,h,h1,h2⟩)
   .rw [pU a h.rg.1] at h1;rw [pU a h.rg.2] at h2;exact .inl (.inr ⟨p,q,h,h1,h2⟩)
   .rw [pR b h.1.rg] at h1;rw [pU a h.2.rg] at h2;exact .inr ⟨p,q,h,h1,h2⟩
 | alt a b iha ihb=>
  intro n m i k;simp only [CU,Bool.or_eq_true,iha n m i k,ihb (n+a.leaves) (m+a.size) i k];constructor
  .rintro (⟨p,q,h,h1,h2⟩ | ⟨p,q,h,h1,h2⟩)
   .exact⟨p,q,.inl h,by rw [qQ b h.rg.1];exact h1,by rw [qQ b h.rg.2];exact h2⟩
   .exact⟨p,q,.inr h,by rw [qR a h.rg.1];exact h1,by rw [qR a h.rg.2];exact h2⟩
  .rintro ⟨p,q,h | h,h1,h2⟩
   .rw [qQ b h.rg.1] at h1;rw [qQ b h.rg.2] at h2;exact .inl ⟨p,q,h,h1,h2⟩
   .rw [qR a h.rg.1] at h1;rw [qR a h.rg.2] at h2;exact .inr ⟨p,q,h,h1,h2⟩
 | star a ih=>?_
 | plus a ih=>?_
 | opt a ih=>intro n m i k;exact ih n m i k
 all_goals
  intro n m i k;simp only [CU,Bool.or_eq_true,Bool.and_eq_true,ih n m i k];rw [Lj (n:=n) (n':=n)];constructor
  .rintro (⟨p,q,h,h1,h2⟩ | ⟨p,q,h,h1,h2⟩)
   .exact⟨p,q,.inl h,h1,h2⟩
   .exact⟨p,q,.inr h,h1,h2⟩
  .rintro ⟨p,q,h | h,h1,h2⟩
   .exact .inl ⟨p,q,h,h1,h2⟩
   .exact .inr ⟨p,q,h,h1,h2⟩
theorem ZI (re:aM):∀(n m c p:Nat),Rg re n p->∃T,(nodes re m)[nu re n m p-m]?=some ⟨1,0,0,T⟩/\(Tk re n p c↔T c=true):=by
 induction re with
 | pl T=>
  intro n m c p h;refine⟨T,by simp [nodes,nu],?_⟩;simp only [Rg,aM.leaves] at h;have e:p=n:=by omega
  simp [Tk,e]
 | cat a b iha ihb=>
  intro n m c p h;simp only [Rg,aM.leaves] at h;by_cases h1:p<n+a.leaves
  .have hr:Rg a n p:=⟨h.1,h1⟩
   obtain⟨T,g1,g2⟩:=iha n m c p hr;have hl:nu a n m p-m<(nodes a m).length:=(ge_.1 g1).1;refine⟨T,?_,?_⟩
   .rw [pR b hr];show (nodes a m++_++_)[_]?=_;rw [aa_,al_ hl];exact g1
   .rw [<-g2];exact⟨fun k=>k.elim id (fun k=>absurd k.rg.1 (by omega)),.inl⟩
  .have hr:Rg b (n+a.leaves) p:=⟨by omega,by omega⟩
   obtain⟨T,g1,g2⟩:=ihb (n+a.leaves) (m+a.size) c p hr;have hl:nu b (n+a.leaves) (m+a.size) p-(m+a.size)<(nodes b (m+a.size)).length:=(ge_.1 g1).1
   have hg:=@BU b (n+a.leaves) (m+a.size) p hr
   refine⟨T,?_,?_⟩
   .rw [pU a hr];show (nodes a m++_++_)[_]?=_;rw [aa_,ar_ (by rw [bR];omega),bR,show nu b (n+a.leaves) (m+a.size) p-m-a.size=nu b (n+a.leaves) (m+a.size) p-(m+a.size) by omega,al_ hl];exact g1
   .rw [<-g2];exact⟨fun k=>k.elim (fun k=>absurd k.rg.2 (by omega)) id,.inr⟩
 | alt a b iha ihb=>
  intro n m c p h;simp only [Rg,aM.leaves] at h;by_cases h1:p<n+a.leaves
  .have hr:Rg a n p:=⟨h.1,h1⟩
   obtain⟨T,g1,g2⟩:=iha n m c p hr;have hl:nu a n m p-m<(nodes a m).length:=(ge_.1 g1).1;refine⟨T,?_,?_⟩
   .rw [qQ b hr];show (nodes a m++_++_)[_]?=_;rw [aa_,al_ hl];exact g1
   .rw [<-g2];exact⟨fun k=>k.elim id (fun k=>absurd k.rg.1 (by omega)),.inl⟩
  .have hr:Rg b (n+a.leaves) p:=⟨by omega,by omega⟩
   obtain⟨T,g1,g2⟩:=ihb (n+a.leaves) (m+a.size) c p hr;have hl:nu b (n+a.leaves) (m+a.size) p-(m+a.size)<(nodes b (m+a.size)).length:=(ge_.1 g1).1
   have hg:=@BU b (n+a.leaves) (m+a.size) p hr
   refine⟨T,?_,?_⟩
   .rw [qR a hr];show (nodes a m++_++_)[_]?=_;rw [aa_,ar_ (by rw [bR];omega),bR,show nu b (n+a.leaves) (m+a.size) p-m-a.size=nu b (n+a.leaves) (m+a.size) p-(m+a.size) by omega,al_ hl];exact g1
   .rw [<-g2];exact⟨fun k=>k.elim (fun k=>absurd k.rg.2 (by omega)) id,.inr⟩
 | star a ih=>?_
 | plus a ih=>?_
 | opt a ih=>?_
 all_goals
  intro n m c p h;obtain⟨T,g1,g2⟩:=ih n m c p h;have hl:nu a n m p-m<(nodes a m).length:=(ge_.1 g1).1;exact⟨T,by show (nodes a m++_)[nu a n m p-m]?=_;rw [al_ hl];exact g1,g2⟩
end Pu
open Go.RowKit
def dN (x:aF):List V_:=I_ x.kind::I_ x.l::I_ x.r::cK x.inn
def ndC (ns:List aF):List V_:=ns.flatMap dN
theorem gI (x:aF):(dN x).length=259:=by show (cK x.inn).length+1+1+1=259;rw [bZ]
theorem Nh (x:aF) (r:List aF):ndC (x::r)=dN x++ndC r:=rfl
theorem Qi (a b:List aF):ndC (a++b)=ndC a++ndC b:=by simp [ndC]
theorem acn (x:aF):ndC [x]=dN x:=by rw [Nh];exact List.append_nil _
theorem acm {ns:List aF} {j:Nat} {x:aF} (hp:ns[p]?=some x) (hj:j<259):(ndC ns)[p*259+j]?=(dN x)[j]?:=by
 induction ns generalizing p with
 | nil=>simp at hp
 | cons z r ih=>
  rw [Nh];have hz:=gI z
  cases p with
  | zero=>rw [List.getElem?_cons_zero] at hp;cases hp;rw [Nat.zero_mul,Nat.zero_add,al_ (by omega)]
  | succ p=>rw [cs_] at hp;rw [ar_ (by omega),hz,show (p+1)*259+j-259=p*259+j by omega];exact ih hp
theorem iO (x:aF):∀u∈dN x,u.oneCell'=true:=by
 intro u hu;unfold dN at hu;rcases mm_.1 hu with rfl | hu
 .rfl
 .rcases mm_.1 hu with rfl | hu
  .rfl
  .rcases mm_.1 hu with rfl | hu
   .rfl
   .exact qj _ u hu
def xX:List V_:=dN ⟨0,0,0,Pu.dP⟩
theorem Qj:(Tryz.prog.info? 161).map (fun i=>(i.zero,i.size,i.bytes))=some (some (.agg (I_ 0::I_ 0::I_ 0::List.replicate 256 (Value.bool false)).toArray),259,280):=by kernel_rfl
theorem Ba:(Tryz.prog.info? 161).map (fun i=>(i.zero,i.size,i.bytes))=some (some (.agg xX.toArray),259,280):=by rw [Qj];unfold xX dN;rw [uq];rfl
theorem mg (w:W_):(zeroValue 161).run Tryz.prog w=.ok (.agg xX.toArray) w:=by obtain⟨i,h1,h2,_⟩:=ip_ Ba;simp [zeroValue,typeInfo,go_sem,h1,h2]
theorem iq:(Tryz.prog.info? 161).map (·.size)=some 259:=by obtain⟨i,h1,_,h3,_⟩:=ip_ Ba;rw [h1,Option.map_some,h3]
theorem vg:xX.length=259:=gI _
def rlC (modes:Int) (vn vl:V_) (down:Int) (s:Y_) (i:Nat):List V_:=[I_ modes,vn,vl,I_ down,.string s,I_ i]
def Db (W:W_) (g:Nat) (s:Y_) (i:Nat) (vn vl:V_) (modes down:Int):Prop:=dh W g 99 (rlC modes vn vl down s i)
section
variable {W W':W_} {g i:Nat} {s:Y_} {vn vl:V_} {modes down:Int}
theorem Db.below (h:Db W g s i vn vl modes down) (hb:B_ W W'):Db W' g s i vn vl modes down:=bN h hb (bO h)
theorem Db.at (h:Db W g s i vn vl modes down) (j:Nat):Db (W.setCell (a_ g 5) (I_ j)) g s j vn vl modes down:=cO h 5 _
theorem Db.dn (h:Db W g s i vn vl modes down) (x:Int):Db (W.setCell (a_ g 3) (I_ x)) g s i vn vl modes x:=cO h 3 _
theorem Db.nodes (h:Db W g s i vn vl modes down) (x:V_):Db (W.setCell (a_ g 1) x) g s i x vl modes down:=cO h 1 _
theorem Db.mode (h:Db W g s i vn vl modes down) (x:Int):Db (W.setCell (a_ g 0) (I_ x)) g s i vn vl x down:=cO h 0 _
theorem Db.lines (h:Db W g s i vn vl modes down) (x:V_):Db (W.setCell (a_ g 2) x) g s i vn x modes down:=cO h 2 _
end
structure Dr (B g:Nat) (s:Y_) (i:Nat) (ns:List aF) (vn vl:V_) (modes down:Int) (W:W_):Prop where
 rb:Db W g s i vn vl modes down
 up:B<=g
 own:W.ownsRow B 161 259 vn ns.length (ndC ns)
structure Dk (B:Nat) (w w':W_):Prop where
 lo:Below B w w'
 jy:∀(k:Nat) (cs:Array V_) (t:TypeId) (fr:Nat × Nat),w.heap[k]?=some (c_ cs t fr)->t≠99->t≠161->w'.heap[k]?=some (c_ cs t fr)
section
variable {B:Nat} {w w' w'':W_}
theorem Dk.refl (B:Nat) (w:W_):Dk B w w:=⟨Br_ _ _,fun _ _ _ _ h _ _=>h⟩
theorem Dk.trans (h:Dk B w w') (h':Dk B w' w''):Dk B w w'':=⟨h.lo.trans h'.lo,fun k cs t fr hk h1 h2=>h'.jy k cs t fr (h.jy k cs t fr hk h1 h2) h1 h2⟩
theorem Dk.below (hB:B<=w.heap.size) (h:B_ w w'):Dk B w w':=⟨h.mono hB,fun k cs t fr hk _ _=>by
 have hl:=(Array.getElem?_eq_some_iff.1 hk).1;rw [h.block k hl]
 exact hk⟩
theorem Dk.grown {g t0:Nat} {xs:List V_} (hb:dh w g t0 xs) (hg:B<=g) (ht:t0=99\/t0=161) (h:w.grownBy w' (some g)):Dk B w w':=by
 refine⟨(Br_ _ _).grown h (by have:=bO hb;omega) (fun k e=>by cases e;exact hg),fun k cs t fr hk h1 h2=>?_⟩;have hl:=(Array.getElem?_eq_some_iff.1 hk).1
 rw [h.block k hl (fun e=>by
  cases e
  unfold dh at hb;rw [hb] at hk;cases hk;rcases ht with ht | ht
  .exact h1 ht
  .exact h2 ht)]
 exact hk
theorem Dk.row {size:Nat} {v:V_} (ho:w.ownsRow B 161 size v n xs) (hB:B<=w.heap.size) (h:w.grownBy w' v.ownBlock):Dk B w w':=by
 refine⟨(Br_ _ _).grown h hB (fun k hk=>(ol_ ho k hk).1),fun k cs t fr hk h1 h2=>?_⟩;have hl:=(Array.getElem?_eq_some_iff.1 hk).1
 rw [h.block k hl (fun e=>by
  rcases ho.2 with ⟨rfl,_⟩ | ⟨g,cap,cur,rfl,_,h4,_⟩
  .cases e
  .cases e
   rw [h4] at hk;cases hk
   exact h2 rfl)]
 exact hk
theorem Dk.fA {g t:Nat} (h:Dk B w w') (hb:dh w g t xs) (h1:t≠99) (h2:t≠161):dh w' g t xs:=h.jy g _ t _ hb h1 h2
theorem Dk.rows {B' t size:Nat} {v:V_} (h:Dk B w w') (hn:w.ownsRow B' t size v n xs) (h1:t≠99) (h2:t≠161):w'.ownsRow B' t size v n xs:=by
 refine⟨hn.1,?_⟩;rcases hn.2 with h0 | ⟨g,cap,cur,h3,h4,h5,h6⟩
 .exact .inl h0
 .exact .inr ⟨g,cap,cur,h3,h4,h.jy g _ _ _ h5 h1 h2,h6⟩
end
section
variable {B g i j:Nat} {s:Y_} {ns:List aF} {vn vl:V_} {modes down modes' down':Int} {W W':W_}
theorem Dr.lt (h:Dr B g s i ns vn vl modes down W):B<=W.heap.size:=by have:=h.up;have:=bO h.rb;omega
theorem Dr.below (h:Dr B g s i ns vn vl modes down W) (hb:B_ W W'):Dr B g s i ns vn vl modes down W':=⟨h.rb.below hb,h.up,bU h.own hb di⟩
theorem Dr.eP (h:Dr B g s i ns vn vl modes down W) (hg:W.grownBy W' (some g)) (hr:Db W' g s j vn vl modes' down'):Dr B g s j ns vn vl modes' down' W':=⟨hr,h.up,dA h.own h.rb (by decide) hg⟩
theorem Dr.dk (h:Dr B g s i ns vn vl modes down W) (hg:W.grownBy W' (some g)):Dk B W W':=.grown h.rb h.up (.inl rfl) hg
end
def XC (v:V_) (g:Nat) (s:Y_) (j:Nat) (vn vl:V_) (modes down:Int) (w:W_) (e:Ending) (w':W_):Prop:=
 e=.returned v/\w.grownBy w' (some g)/\Db w' g s j vn vl modes down
theorem II (g i:Nat) (s:Y_) (vn vl:V_) (modes down:Int) (w:W_) (h:Db w g s i vn vl modes down) (hs:s.size<=1000) (i1:i<s.size) (h2:Pu.dG s i≠92) :
  C_ 158 #[p_ g] w (XC (I_ (Pu.dG s i)) g s (i+1) vn vl modes down w):=by
 have c4:=bP 4 h rfl;have c5:=bP 5 h rfl;have f5:=bL h 5;have H0:=bK h;clear h;have x0:=fun w=>dU s (i:Int) i rfl (by omega) w
 have j0:=jg i;have j1:(i:Int)<s.size:=by omega
 have wi:=kg i;rw [lK i1] at h2 |-
 have bd:=iC s i;generalize bt s i=b at *;have e1:(b != 92)=true:=by simpa using h2
 clear h2;go_enter Tryz.func158,Tryz.ntmps158
 go_wp2_with fail
 go_quiet (fail);have dn:=bd_ (Br_ w.heap.size w) nq;have H1:=bK (H0.o.below dn);have G1:=bK (jK (some g) dn);clear dn c4 c5 f5 H0;generalize w.drewN nq=W1 at *;have c5:=bP 5 H1.o rfl;have f5:=bL H1.o 5;have N1:=bK (H1.o.at (i+1));go_wp2;go_ret
 exact⟨rfl,G1.o.trans (gs_ _ g 5 _),N1.o⟩
theorem vz (g i j:Nat) (s:Y_) (vn vl:V_) (modes down v:Int) (w:W_) (h:Db w g s i vn vl modes down) (hs:s.size<=1000) (hv:Pu.Sg s i j v) :
  C_ 158 #[p_ g] w (XC (I_ v) g s j vn vl modes down w):=by
 have c4:=bP 4 h rfl;have c5:=bP 5 h rfl;have f5:=bL h 5;have H0:=bK h;clear h;have i1:i<s.size:=by have:=hv.lt;have:=hv.le;omega
 have x0:=fun w=>dU s (i:Int) i rfl (by omega) w
 have j0:=jg i;have j1:(i:Int)<s.size:=by omega
 have wi:=kg i
 cases hv with
 | plain h1 h2=>exact II g i s vn vl modes down w H0.o hs i1 h2
 | wP h1 h2=>
  have i2:i+1<s.size:=Pu.fB (h2.ok.ne);rw [lK i1] at h1;rw [lK i2] at h2;rw [h1] at x0;have x1:∀w,(Instr.index 9 (.string s) (I_ ((i:Int)+1))).run Tryz.prog w=.ok (.int .u8 (bt s (i+1))) w:=fun w=>dU s ((i:Int)+1) (i+1) (by omega) i2 w
  have k0:(0:Int)<=i+1:=by omega
  have k1:(i:Int)+1<(s.size:Int):=by omega
  have wi2:=xF ((i:Int)+1+1);have bd:=iC s (i+1);generalize bt s (i+1)=b at *;clear h1;unfold OL at h2;rcases h2 with ⟨hb,hv⟩ | ⟨hb,hv⟩ | ⟨hb,hv⟩
  focus
   subst hv;have e1:(v == 110)=false:=by simp;omega
   have e2:(v == 115)=false:=by simp;omega
   clear hb
  rotate_left
  focus subst hb hv
  rotate_left
  focus subst hb hv
  all_goals
   go_enter Tryz.func158,Tryz.ntmps158
   go_wp2_with fail
   go_quiet (fail);have dn:=bd_ (Br_ w.heap.size w) nq;have H1:=bK (H0.o.below dn);have G1:=bK (jK (some g) dn);clear dn c4 c5 f5 H0;generalize w.drewN nq=W1 at *;have c5:=bP 5 H1.o rfl;have f5:=bL H1.o 5;have H2:Hid (Db (W1.setCell (a_ g 5) (I_ ((i:Int)+1))) g s (i+1) vn vl modes down):=H1.o.at (i+1);have G2:=bK (G1.o.trans (gs_ W1 g 5 (I_ ((i:Int)+1))));go_upto_region 5 with (fail);clear c5 f5 H1 G1;generalize W1.setCell (a_ g 5) (I_ ((i:Int)+1))=W2 at *;have c4:=bP 4 H2.o rfl;have c5:W2.cell? (a_ g 5)=some (I_ ((i:Int)+1)):=bM (j:=5) H2.o rfl
   go_wp2_with fail
   go_quiet (fail);have dn:=bd_ (Br_ W2.heap.size W2) nq;have H3:=bK (H2.o.below dn);have G3:=bK (G2.o.trans (jK (some g) dn));clear dn c4 c5 H2 G2;generalize W2.drewN nq=W3 at *;have c5:W3.cell? (a_ g 5)=some (I_ ((i:Int)+1)):=bM (j:=5) H3.o rfl;have f5:=bL H3.o 5;have N1:Hid (Db (W3.setCell (a_ g 5) (I_ ((i:Int)+1+1))) g s (i+2) vn vl modes down):=H3.o.at (i+2);go_wp2;go_ret;exact⟨rfl,G3.o.trans (gs_ _ g 5 _),N1.o⟩
theorem VE (x:aF):Instr.fill (fun i=>some (i*259,259)) ((Array.range (1*259)).map fun j=>((Value.agg xX.toArray).cells)[j % (Value.agg xX.toArray).cells.size]!) [(0,.agg (dN x).toArray)]=some (dN x).toArray:=by rw [ru];have hl:=gI x;have:=uz (fun i=>some (i*259,259)) (dN x) ((List.range (1*259)).map fun j=>((Value.agg xX.toArray).cells)[j % (Value.agg xX.toArray).cells.size]!) (by rw [hl]) (by rw [hl,lm_,List.length_range];omega);rw [hl,List.drop_of_length_le (by rw [lm_,List.length_range];omega),List.append_nil] at this;exact this
def XH (B g:Nat) (s:Y_) (i:Nat) (n:Nat) (ns:List aF) (vl:V_) (modes down:Int) (w:W_) (e:Ending) (w':W_):Prop:=
 e=.returned (I_ n)/\Dk B w w'/\∃vn,Dr B g s i ns vn vl modes down w'
theorem om (B g i:Nat) (s:Y_) (ns:List aF) (vn vl:V_) (modes down:Int) (x:aF) (w:W_) (h:Dr B g s i ns vn vl modes down w) (hl:ns.length<=10000) :
  C_ 122 #[p_ g,.agg (dN x).toArray] w (XH B g s i ns.length (ns++[x]) vl modes down w):=by
 obtain⟨ip,hp,hp0,hp1,hp2⟩:=ip_ Ba;obtain⟨ap,cp,rfl,o1,o2⟩:=dS h.own;have BL:=h.lt;have hb0:=(Br_ w.heap.size w).alloc di (c_ (dN x).toArray 161);have H0:=bK (h.below hb0);have KW:Hid (Dk B w (w.alloc (c_ (dN x).toArray 161))):=.below BL hb0;have XB:Hid (dh (w.alloc (c_ (dN x).toArray 161)) w.heap.size 161 (dN x)):=hn_ _ _;have adU:Hid (some w.heap.size≠(Value.slice ap ns.length cp).ownBlock):=fun e=>by have:=(ol_ h.own _ e.symm).2;omega
 have gl:=bO h.rb;have c1:=bP 1 H0.o.rb rfl;clear h hb0;go_enter Tryz.func122,Tryz.ntmps122
 go_wp2_with fail
 generalize w.alloc (c_ (dN x).toArray 161)=W0 at *;generalize w.heap.size=gx at *;have hb2:=((Br_ W0.heap.size W0).alloc di (c_ (dN x).toArray 161)).drew;have H2:=bK (H0.o.below hb2);have K1:Hid (Dk B W0 (W0.alloc (c_ (dN x).toArray 161)).drew):=.below H0.o.lt hb2;have XB2:=bK (bN XB.o hb2 (bO XB.o));have BL2:B<=(W0.alloc (c_ (dN x).toArray 161)).drew.heap.size:=H2.o.lt;have S1:W0.drew.rangeAt gx 0 (dN x):=dZ (W:=W0.drew) XB.o;have S2:(W0.alloc (c_ (dN x).toArray 161)).drew.rangeAt gx 0 (dN x):=dZ XB2.o;have rl:=bO H0.o.rb;have ne1:g≠W0.heap.size:=by omega
 have yZ:W0.heap.size≠g:=by omega
 clear hb2;refine wd_ (S:=fun w'=>w'.rangeAt gx 0 (dN x)) (by kernel_rfl) S1 (fun dF=>?_);refine bW 0 ?_
 refine bW 1 ?_
 refine bW 2 ?_
 refine bW 3 ?_
 refine wpAnyH_take (i:=5) (v:=(.agg (dN x).toArray)) rfl (by kernel_rfl) (by kernel_rfl) (by kernel_rfl) (fun _ _ _ h=>h) (yieldsIf_load_mid (by rfl) 161 (.tmp 3) rfl gx 0 rfl (dN x) _ (fun _ hS=>hS) Tryz.underlying161 rfl (by rw [gI];exact iq)) (by assumption) ?_
 try simp only [nU,Act.put]
 refine xY 4 6 (fun K hK=>?_) (fun K hK=>?_)
 focus
  go_simp
  refine hK.out _ _ dF (fun fV=>?_);clear hK K
  try simp only [nU,Act.put]
  refine fq 6 (fun K hK=>?_)
 rotate_left
 focus have c2':=bM (j:=1) H2.o.rb rfl
 rotate_left
 all_goals
  refine eQ 96 161 0 (.tmp 10) (.agg (dN x).toArray) rfl rfl (dN x).toArray ip _ 259 Tryz.underlying96 hp hp0 hp1 (by omega) (by omega) (VE x) ?_
 rotate_left
 focus
  refine hK.out _ _ S2 (fun fV=>?_);clear hK K
  try simp only [nU,Act.put]
  refine fq 4 (fun K hK=>?_)
  go_simp
 all_goals
  refine hK.out _ _ S2 (fun lh=>?_);clear hK K
  try simp only [nU,Act.put]
  refine fq 7 (fun K hK=>?_);refine sa_ _ (by rfl) _ _ _ (by rfl) B 161 ip _ 259 280 Tryz.underlying96 hp hp0 hp1 hp2 (by simp [Value.cells,vg]) (by omega) (.slice ap ns.length cp) ns.length (ndC ns) (by rfl) H2.o.own (a_ W0.heap.size 0) 1 1 (dN x) (by rfl) (by rw [gI]) (World.news_of_block (cs:=(dN x).toArray) (t:=161) (fr:=(0,0)) (hn_ _ _)) (iO x) (by omega) (by unfold maxLen;omega) (by omega) BL2 (W0.heap.size+1) (by simp) ?_
  intro g2 fE w2 dw bS jH kV;clear jH kV;have K2:=Dk.row H2.o.own BL2 bS;have kD:Db w2 g s i (.slice ap ns.length cp) vl modes down:=dR H2.o.own H2.o.rb (by decide) bS;have WJ:=bQ XB2.o bS adU.o;refine hK.out _ _ (dZ WJ) (fun lq=>?_);have k5:=bP 1 kD rfl;have Ps:=bL kD 1;clear hK K
  try simp only [nU,Act.put]
  refine bW 8 ?_
  refine bW 9 ?_
  refine fq 10 (fun K hK=>?_)
  go_simp
  have hg3:=gs_ w2 g 1 (s_ g2 (ns.length+1) fE);have xb3:=bQ WJ hg3 (fun e=>dD WJ kD (by decide) (oi_ e));refine hK.out _ _ (dZ xb3) (fun oM=>?_);clear hK K;refine wpAnyH_done (by kernel_rfl) ?_ _;have K3:Hid (Dk B w (w2.setCell (a_ g 1) (s_ g2 (ns.length+1) fE))):=(KW.o.trans (K1.o.trans K2)).trans (.grown kD H2.o.up (.inl rfl) hg3);have R3:Hid (Dr B g s i (ns++[x]) (s_ g2 (ns.length+1) fE) vl modes down (w2.setCell (a_ g 1) (s_ g2 (ns.length+1) fE))):=by refine⟨kD.nodes _,H2.o.up,?_⟩;have:=dA dw kD (by decide) hg3;rw [Qi,acn,la_];exact this
  clear dF fV lh lq oM kD WJ xb3 k5 Ps dw bS K2 hg3 H2 XB2;generalize w2.setCell (a_ g 1) (s_ g2 (ns.length+1) fE)=W4 at *;have q1:=bP 1 R3.o.rb rfl;have ws:IntKind.i64.wrap ((ns.length:Int)+1-1)=(ns.length:Int):=by rw [oG _ (by omega) (by omega)];omega
  go_wp2;go_ret;exact⟨rfl,K3.o,_,R3.o⟩
namespace Pu
theorem Sg.bd {s:Y_} {i j:Nat} {v:Int} (h:Sg s i j v):0<=v/\v<=255/\dG s i≠93:=by
 cases h with
 | plain h1 h2=>have:=Qt s i;omega
 | wP h1 h2=>have:=Qt s (i+1);unfold OL at h2;omega
theorem ay.bd {s:Y_} {i j:Nat} {lo hi:Int} {r:Bool} (h:ay s i j lo hi r):0<=lo/\lo<=255/\0<=hi/\hi<=255/\dG s i≠93:=by
 cases h with
 | one h1 _=>have:=h1.bd;omega
 | range h1 _ h3=>have:=h1.bd;have:=h3.bd;omega
theorem aj.beg {s:Y_} {i k:Nat} {T T':Nat->Bool} {D D':Bool} (h:aj s i T D k T' D'):dG s i≠93/\i<s.size/\k<=s.size:=by
 induction h with
 | done h1 h2=>exact⟨h1.bd.2.2.2.2,by have:=h1.lt;have:=h1.le;omega,fB (s:=s) (by rw [h2];decide)⟩
 | more h1 _ _ ih=>exact⟨h1.bd.2.2.2.2,by have:=h1.lt;have:=h1.le;omega,ih.2.2⟩
def oF (nl:Int) (D:Bool) (down:Int):Int:=if D=true/\down<0 then nl else down
theorem xS (nl down:Int):oF nl false down=down:=by unfold oF;rw [if_neg (by simp)]
theorem Kc {nl:Int} (h:0<=nl) (D D':Bool) (down:Int):oF nl D' (oF nl D down)=oF nl (D || D') down:=by
 unfold oF;cases D <;> cases D' <;> simp
 split <;> omega
theorem ou (T:Nat->Bool) {lo hi:Int} (h:hi<lo):wid T lo hi=T:=by
 funext n;unfold wid;have:¬(lo<=(n:Int)/\(n:Int)<=hi):=by omega
 cases hT:T n
 .simp only [Bool.false_or];rw [<-Bool.decide_and];exact dn_ this
 .rfl
theorem Gb (T:Nat->Bool) (lo:Int) (c:Nat) (h:lo<=(c:Int)):(fun n=>if n=c then true else wid T lo ((c:Int)-1) n)=wid T lo (c:Int):=by
 funext n;unfold wid;by_cases e:n=c
 .subst e;simp [h]
 .rw [if_neg e];congr 1;congr 1;have:((n:Int)<=c-1)↔((n:Int)<=c):=by omega
  exact decide_eq_decide.2 this
end Pu
theorem NI {w w':W_} {base e size g:Nat} {v:V_} (h:w.ownsRow base e size v n xs) (hne:some g≠v.ownBlock) (hg:w.grownBy w' (some g)):w'.ownsRow base e size v n xs:=by
 refine⟨h.1,?_⟩;rcases h.2 with h0 | ⟨g',cap,cur,h1,h2,h3,h4⟩
 .exact .inl h0
 .refine .inr ⟨g',cap,cur,h1,h2,?_,h4⟩;have hl:=(Array.getElem?_eq_some_iff.1 h3).1;rw [hg.block g' hl (fun e=>hne (by rw [<-e,h1];rfl))];exact h3
theorem Dk.fresh {B g:Nat} {w w1 w2:W_} (h:Dk B w w1) (hg:w1.grownBy w2 (some g)) (h1:w.heap.size<=g) (h2:B<=w.heap.size):Dk B w w2:=by refine⟨h.lo.grown hg (lt_ h2 h.lo.size) (fun k e=>by cases e;omega),fun k cs t fr hk a b=>?_⟩;have hl:=(Array.getElem?_eq_some_iff.1 hk).1;have:=h.jy k cs t fr hk a b;rw [hg.block k (Nat.lt_of_lt_of_le hl h.lo.size) (fun e=>by cases e;omega)];exact this
theorem BQ (k:Int):Tryz.prog.built 161 [(0,I_ k)]=some (I_ k::I_ 0::I_ 0::cK Pu.dP).toArray:=by
 rw [<-uq]
 kernel_rfl
theorem xe (k l:Int):Tryz.prog.built 161 [(0,I_ k),(1,I_ l)]=some (I_ k::I_ l::I_ 0::cK Pu.dP).toArray:=by
 rw [<-uq]
 kernel_rfl
theorem BR (k l r:Int):Tryz.prog.built 161 [(0,I_ k),(1,I_ l),(2,I_ r)]=some (I_ k::I_ l::I_ r::cK Pu.dP).toArray:=by
 rw [<-uq]
 kernel_rfl
structure DC (B g:Nat) (s:Y_) (j:Nat) (ns:List aF) (vn vl:V_) (modes down:Int) (w:W_) (gx:Nat) (T:Nat->Bool) (W:W_):Prop where
 dr:Dr B g s j ns vn vl modes down W
 dk:Dk B w W
 x:dh W gx 161 (dN ⟨1,0,0,T⟩)
 ap:w.heap.size<=gx/\B<=w.heap.size/\some gx≠vn.ownBlock/\g≠gx
section
variable {B g:Nat} {s:Y_} {j j':Nat} {ns:List aF} {vn vl:V_} {modes down down':Int} {w:W_} {gx:Nat} {T:Nat->Bool} {W W':W_}
theorem DC.below (h:DC B g s j ns vn vl modes down w gx T W) (hb:B_ W W'):DC B g s j ns vn vl modes down w gx T W':=
 ⟨h.dr.below hb,h.dk.trans (.below h.dr.lt hb),bN h.x hb (bO h.x),h.ap⟩
theorem DC.eP (h:DC B g s j ns vn vl modes down w gx T W) (hg:W.grownBy W' (some g)) (hr:Db W' g s j' vn vl modes down'):DC B g s j' ns vn vl modes down' w gx T W':=
 ⟨h.dr.eP hg hr,h.dk.trans (h.dr.dk hg),bQ h.x hg (fun e=>h.ap.2.2.2 (oi_ e).symm),h.ap⟩
theorem ZE (T:Nat->Bool) (c:Nat) (b:Bool):(dN ⟨1,0,0,T⟩).set (3+c) (.bool b)=dN ⟨1,0,0,fun n=>if n=c then b else T n⟩:=by unfold dN;rw [show 3+c=c+1+1+1 by omega,ss_,ss_,ss_,Ht]
theorem DC.bit (h:DC B g s j ns vn vl modes down w gx T W) (c:Nat) (b:Bool):DC B g s j ns vn vl modes down w gx (fun n=>if n=c then b else T n) (W.setCell (a_ gx (3+c)) (.bool b)):=by have hg:=gs_ W gx (3+c) (.bool b);refine⟨⟨dB h.dr.rb h.ap.2.2.2 _ _,h.dr.up,NI h.dr.own h.ap.2.2.1 hg⟩,h.dk.fresh hg h.ap.1 h.ap.2.1,?_,h.ap⟩;have:=cO h.x (3+c) (.bool b);rw [ZE] at this;exact this
theorem DC.new (h:Dr B g s j ns vn vl modes down W) (hk:Dk B w W) (hB:B<=w.heap.size):DC B g s j ns vn vl modes down w W.heap.size Pu.dP ((W.alloc (c_ xX.toArray 161)).setCells W.heap.size 0 (dN ⟨1,0,0,Pu.dP⟩)):=by have x0:dh (W.alloc (c_ xX.toArray 161)) W.heap.size 161 xX:=hn_ _ _;have bw:B_ W ((W.alloc (c_ xX.toArray 161)).setCells W.heap.size 0 (dN ⟨1,0,0,Pu.dP⟩)):=ky (g:=W.heap.size) di _ 0 _ ((Br_ W.heap.size W).alloc di _);exact⟨h.below bw,hk.trans (.below h.lt bw),oK _ x0 (by rw [vg,gI]),hk.lo.size,hB,fun e=>by have:=(ol_ h.own _ e.symm).2;omega,by have:=bO h.rb;omega⟩
theorem DC.there (h:DC B g s j ns vn vl modes down w gx T W):W.rangeAt gx 0 (dN ⟨1,0,0,T⟩):=dZ h.x
end
theorem iY {W:W_} (x:aF):(W.alloc (c_ xX.toArray 161)).there W.heap.size 0 (dN x).toArray.size:=by have x0:dh (W.alloc (c_ xX.toArray 161)) W.heap.size 161 xX:=hn_ _ _;have:=mH x0;rw [vg] at this;simpa [gI] using this
theorem lY (x:aF):(Tryz.prog.info? 161).map (·.size)=some (dN x).toArray.size:=by rw [List.size_toArray,gI];exact iq
end Go.Proofs.YtmccnmgaoppogaaGreat
