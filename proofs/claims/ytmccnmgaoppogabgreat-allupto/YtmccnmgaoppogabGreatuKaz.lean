import Derived.Test.YtmccnmgaoppogabGreatuKay
namespace Go.Proofs.YtmccnmgaoppogabGreat
open Pu
set_option linter.all false
open Go.Proofs.Tryz Tryz
set_option maxRecDepth 100000
set_option maxHeartbeats 8000000
variable {L c i k n:Nat}
namespace Pu
theorem aaA{p q:Nat->Bool}:∀l:List Nat,(∀x∈l,q x=true->p x=true)->l.countP q<=l.countP p:=by
 intro l;induction l with
 | nil=>intro _;exact dF
 | cons x l b=>
  intro h;have:=b (fun y a=>h y (mc_ _ a));have a:=h x (ms_ ..);rw[List.countP_cons,List.countP_cons];cases hq:q x with
  | false=>simp;omega
  | true=>rw[a hq];simp;omega
theorem agG{p q:Nat->Bool}:∀l:List Nat,(∀x∈l,q x=true->p x=true)->(∃x∈l,p x=true/\q x=false)->l.countP q<l.countP p:=by
 intro l;induction l with
 | nil=>intro _ ⟨x,b,_⟩;simp at b
 | cons x l g=>
  intro h ⟨y,a,d,e⟩;have f:=fun y a=>h y (mc_ _ a);have b:=h x (ms_ ..);rw[List.countP_cons,List.countP_cons];rcases mm_.1 a with rfl | a
  .have:=aaA l f;rw[d,e];simp;omega
  .have:=g f ⟨y,a,d,e⟩;cases hq:q x with
   | false=>simp;omega
   | true=>rw[b hq];simp;omega
theorem Oj(a:k<n):(i*n+k) / n=i:=by rw[Nat.add_comm,Nat.add_mul_div_right _ _ o_,Nat.div_eq_of_lt a,Nat.zero_add]
theorem Ol(a:k<n):(i*n+k) % n=k:=by rw[Nat.add_comm,Nat.add_mul_mod_self_right,Nat.mod_eq_of_lt a]
def iI(a b:Nat->Bool):Nat->Bool:=fun i=>a i || b i
def dY(L:Nat)(a b:Nat->Bool):Bool:=(List.range L).any (fun i=>b i && !a i)
def dV(f:Nat->Nat->Bool)(c:Nat)(row:Nat->Bool):Nat->Nat->Bool:=fun j=>if j=c then row else f j
theorem iG{a b:Nat->Bool}(h:dY L a b=false)(e:i<L):b i=true->a i=true:=by intro d;unfold dY at h;rw[List.any_eq_false]at h;have:=h i (List.mem_range.2 e);rw[d]at this;simpa using this
theorem Oy{a b:Nat->Bool}(h:dY L a b=true):∃i,i<L/\b i=true/\a i=false:=by unfold dY at h;rw[List.any_eq_true]at h;obtain⟨i,d,e⟩:=h;refine⟨i,List.mem_range.1 d,?_⟩;simpa using e
theorem wz{f:Nat->Nat->Bool}{row:Nat->Bool}:dV f c row c=row:=by unfold dV;rw[if_pos rfl]
theorem Bi{f:Nat->Nat->Bool}{j:Nat}{row:Nat->Bool}(h:j≠c):dV f c row j=f j:=by unfold dV;rw[if_neg h]
def Oi(n L:Nat)(f:Nat->Nat->Bool):Nat:=(List.range (n*L)).countP (fun x=>!f (x / L) (x % L))
theorem ae3(a:i<n)(b:k<L):i*L+k<n*L:=by have:(i+1)*L<=n*L:=Nat.mul_le_mul_right L a;rw[Nat.succ_mul]at this;omega
theorem aaK{f:Nat->Nat->Bool}{s:Nat->Bool}(j:c<n):Oi n L (dV f c (iI (f c) s))+(if dY L (f c) s=true then 1 else 0)<=Oi n L f:=by
 have mono:∀x∈List.range (n*L),(!dV f c (iI (f c) s) (x / L) (x % L))=true->(!f (x / L) (x % L))=true:=fun x _ b=>by
  unfold dV iI at b;split at b
  .next e=>rw[e];simp at b |-;exact b.1
  .exact b
 unfold Oi;by_cases g:dY L (f c) s=true
 .rw [if_pos g];obtain⟨i,a,d,h⟩:=Oy g;refine agG _ mono ⟨c*L+i,List.mem_range.2 (ae3 j a),?_,?_⟩
  .rw [Oj a,Ol a,h];rfl
  .rw [Oj a,Ol a,wz];unfold iI;rw[d];simp
 .rw [if_neg g];exact aaA _ mono
section
variable {PB PE:Nat->Nat->Prop} {L n:Nat} {xN en0 bg en:Nat->Nat->Bool} {more:Bool}
structure E9(PB PE:Nat->Nat->Prop)(L n:Nat)(xN en0 bg en:Nat->Nat->Bool)(more:Bool):Prop where
 sb:∀j p,j<n->p<L->bg j p=true->PB j p
 se:∀j p,j<n->p<L->en j p=true->PE j p
 mb:∀j p,xN j p=true->bg j p=true
 cnt:Oi n L bg+Oi n L en+(if more=true then 1 else 0)<=Oi n L xN+Oi n L en0
 same:more=false->∀j p,j<n->p<L->bg j p=xN j p/\en j p=en0 j p
theorem E9.xV(h:E9 PB PE L n xN en0 bg en more){s:Nat->Bool}(r:c<n)(t:∀p,p<L->s p=true->PB c p):E9 PB PE L n xN en0 (dV bg c (iI (bg c) s)) en (more || dY L (bg c) s):=by
 refine⟨fun j p l b a=>?_,h.se,fun j p a=>?_,?_,fun e j p l b=>?_⟩
 .unfold dV at a;split at a
  .next e=>subst e;unfold iI at a;rw[Bool.or_eq_true]at a;exact a.elim (h.sb j p l b) (t p b)
  .exact h.sb j p l b a
 .have:=h.mb j p a;unfold dV;split
  .next e=>subst e;unfold iI;rw[this];rfl
  .exact this
 .have d:=h.cnt;have q:=aaK (L:=L) (f:=bg) (s:=s) r;generalize dY L (bg c) s=g at q |-;cases more <;> cases g <;> simp at d q |- <;> omega
 .rw [Bool.or_eq_false_iff]at e;have d:=h.same e.1 j p l b;refine⟨?_,d.2⟩;rw[<-d.1];unfold dV;split
  .next ej=>
   subst ej;unfold iI;have:=iG e.2 b;cases a:s p with
   | false=>rw[Bool.or_false]
   | true=>rw[this a];rfl
  .rfl
theorem E9.uz(h:E9 PB PE L n xN en0 bg en more){s:Nat->Bool}(r:c<n)(t:∀p,p<L->s p=true->PE c p):E9 PB PE L n xN en0 bg (dV en c (iI (en c) s)) (more || dY L (en c) s):=by
 refine⟨h.sb,fun j p l b a=>?_,h.mb,?_,fun e j p l b=>?_⟩
 .unfold dV at a;split at a
  .next e=>subst e;unfold iI at a;rw[Bool.or_eq_true]at a;exact a.elim (h.se j p l b) (t p b)
  .exact h.se j p l b a
 .have d:=h.cnt;have q:=aaK (L:=L) (f:=en) (s:=s) r;generalize dY L (en c) s=g at q |-;cases more <;> cases g <;> simp at d q |- <;> omega
 .rw [Bool.or_eq_false_iff]at e;have d:=h.same e.1 j p l b;refine⟨d.1,?_⟩;rw[<-d.2];unfold dV;split
  .next ej=>
   subst ej;unfold iI;have:=iG e.2 b;cases a:s p with
   | false=>rw[Bool.or_false]
   | true=>rw[this a];rfl
  .rfl
theorem E9.start(h:E9 PB PE L n xN en0 bg en more):E9 PB PE L n bg en bg en false:=⟨h.sb,h.se,fun _ _ h=>h,i_,fun _ _ _ _ _=>⟨rfl,rfl⟩⟩
end
def Bh(y:aF)(w:List Nat)(p:Nat->Bool):Nat->Bool:=fun q=>
 if q=w.length+1 then (List.range 256).any y.inn && (p w.length || p (w.length+1)) else if q=0 then false else p (q-1) && y.inn (w.getD (q-1) 0)
def Ea(y:aF)(i:Nat)(bg en:Nat->Nat->Bool):Nat->Nat->Bool:=
 if y.kind=1 then bg else
 let a:=dV bg y.l (iI (bg y.l) (bg i))
 if y.kind=2 then dV a y.r (iI (a y.r) (en y.l)) else if y.kind=3 then dV a y.r (iI (a y.r) (a i)) else if y.kind=6 then a else dV a y.l (iI (a y.l) (en y.l))
def BQ(L:Nat)(y:aF)(i:Nat)(bg en:Nat->Nat->Bool):Bool:=
 if y.kind=1 then false else
 let b:=dV bg y.l (iI (bg y.l) (bg i))
 let a:=dY L (bg y.l) (bg i)
 if y.kind=2 then a || dY L (b y.r) (en y.l) else if y.kind=3 then a || dY L (b y.r) (b i) else if y.kind=6 then a else a || dY L (b y.l) (en y.l)
def Hw(w:List Nat)(y:aF)(i:Nat)(bg en:Nat->Nat->Bool):Nat->Nat->Bool:=
 if y.kind=1 then dV en i (iI (en i) (Bh y w (bg i))) else if y.kind=2 then dV en i (iI (en i) (en y.r)) else
 let a:=if y.kind=3 then dV en i (iI (en i) (en y.r)) else if y.kind=5 then en else dV en i (iI (en i) (bg i))
 dV a i (iI (a i) (a y.l))
def DK(L:Nat)(w:List Nat)(y:aF)(i:Nat)(bg en:Nat->Nat->Bool):Bool:=
 if y.kind=1 then dY L (en i) (Bh y w (bg i)) else if y.kind=2 then dY L (en i) (en y.r) else
 let a:=if y.kind=3 then dV en i (iI (en i) (en y.r)) else if y.kind=5 then en else dV en i (iI (en i) (bg i))
 (if y.kind=3 then dY L (en i) (en y.r) else if y.kind=5 then false else dY L (en i) (bg i)) || dY L (a i) (a y.l)
structure UE(L:Nat)(y:aF)(i:Nat)(bg en:Nat->Nat->Bool):Prop where
 c1:y.kind≠1->∀p,p<L->bg i p=true->bg y.l p=true
 c2:y.kind=2->∀p,p<L->en y.l p=true->bg y.r p=true
 c3:y.kind=3->∀p,p<L->bg i p=true->bg y.r p=true
 c4:y.kind=4\/y.kind=5->∀p,p<L->en y.l p=true->bg y.l p=true
structure Zv(L:Nat)(w:List Nat)(y:aF)(i:Nat)(bg en:Nat->Nat->Bool):Prop where
 e1:y.kind=1->∀q,q<L->Bh y w (bg i) q=true->en i q=true
 e2:y.kind=2\/y.kind=3->∀q,q<L->en y.r q=true->en i q=true
 e0:y.kind=4\/y.kind=6->∀q,q<L->bg i q=true->en i q=true
 eL:y.kind≠1->y.kind≠2->∀q,q<L->en y.l q=true->en i q=true
structure NdK(n i:Nat)(y:aF):Prop where
 lt:i<n
 kd:y.kind=1\/y.kind=2\/y.kind=3\/y.kind=4\/y.kind=5\/y.kind=6
 kl:y.kind≠1->y.l<i
 kr:y.kind=2\/y.kind=3->y.r<i/\y.l<y.r
end Pu
namespace Pu
section
variable {PB PE:Nat->Nat->Prop} {L n i:Nat} {xN en0 bg en:Nat->Nat->Bool} {more:Bool} {w:List Nat} {y:aF}
theorem E9.down(h:E9 PB PE L n xN en0 bg en more)(r:Ik w PB PE i y)(t:NdK n i y):E9 PB PE L n xN en0 (Ea y i bg en) en (more || BQ L y i bg en)/\((more || BQ L y i bg en)=false->UE L y i xN en0):=by
 have v:=t.lt;by_cases b:y.kind=1
 .have f:Ea y i bg en=bg:=by unfold Ea;rw[if_pos b]
  have g:BQ L y i bg en=false:=by unfold BQ;rw[if_pos b]
  rw[f,g,Bool.or_false];exact⟨h,fun _=>⟨fun k=>absurd b k,fun k=>o_,fun k=>o_,fun k=>o_⟩⟩
 .have A:=t.kl b;have q:=h.xV (c:=y.l) (s:=bg i) o_ (fun p a x=>r.c1 b p (h.sb i p v a x));have u:(more || dY L (bg y.l) (bg i))=false->y.kind≠1->∀p,p<L->xN i p=true->xN y.l p=true:=fun e _ p a x=>by
   rw[Bool.or_eq_false_iff]at e;rw[<-(h.same e.1 y.l p o_ a).1];refine iG e.2 a ?_;rw[(h.same e.1 i p v a).1];exact x
  rcases t.kd with k | k | k | k | k | k
  .exact absurd k b
  .have z:=t.kr (.inl k);have f:Ea y i bg en=dV (dV bg y.l (iI (bg y.l) (bg i))) y.r (iI (dV bg y.l (iI (bg y.l) (bg i)) y.r) (en y.l)):=by unfold Ea;rw[if_neg b,if_pos k]
   have g:BQ L y i bg en=(dY L (bg y.l) (bg i) || dY L (dV bg y.l (iI (bg y.l) (bg i)) y.r) (en y.l)):=by unfold BQ;rw[if_neg b,if_pos k]
   rw[f,g,<-Bool.or_assoc];refine⟨q.xV o_ (fun p a d=>r.c2 k p (h.se y.l p o_ a d)),fun e=>?_⟩;rw[Bool.or_eq_false_iff,Bool.or_eq_false_iff]at e;have l:=h.same e.1.1;refine⟨u (by rw[e.1.1,e.1.2];rfl),fun _ p a d=>?_,fun j=>o_,fun j=>o_⟩;rw[<-(l y.r p o_ a).1];have:=iG e.2 a (by rw[(l y.l p o_ a).2];exact d);rwa[Bi o_]at this
  .have z:=t.kr (.inr k);have f:Ea y i bg en=dV (dV bg y.l (iI (bg y.l) (bg i))) y.r (iI (dV bg y.l (iI (bg y.l) (bg i)) y.r) (dV bg y.l (iI (bg y.l) (bg i)) i)):=by unfold Ea;rw[if_neg b,if_neg o_,if_pos k]
   have g:BQ L y i bg en=(dY L (bg y.l) (bg i) || dY L (dV bg y.l (iI (bg y.l) (bg i)) y.r) (dV bg y.l (iI (bg y.l) (bg i)) i)):=by unfold BQ;rw[if_neg b,if_neg o_,if_pos k]
   rw[f,g,<-Bool.or_assoc];refine⟨q.xV o_ (fun p a d=>r.c3 k p (q.sb i p v a d)),fun e=>?_⟩;rw[Bool.or_eq_false_iff,Bool.or_eq_false_iff]at e;have l:=h.same e.1.1;refine⟨u (by rw[e.1.1,e.1.2];rfl),fun j=>o_,fun _ p a d=>?_,fun j=>o_⟩;rw[<-(l y.r p o_ a).1];have:=iG e.2 a (by rw[Bi o_,(l i p v a).1];exact d);rwa[Bi o_]at this
  rotate_left;rotate_left
  .have f:Ea y i bg en=dV bg y.l (iI (bg y.l) (bg i)):=by unfold Ea;rw[if_neg b,if_neg o_,if_neg o_,if_pos k]
   have g:BQ L y i bg en=dY L (bg y.l) (bg i):=by unfold BQ;rw[if_neg b,if_neg o_,if_neg o_,if_pos k]
   rw[f,g];exact⟨q,fun e=>⟨u e,fun j=>o_,fun j=>o_,fun j=>o_⟩⟩
  all_goals
   have f:Ea y i bg en=dV (dV bg y.l (iI (bg y.l) (bg i))) y.l (iI (dV bg y.l (iI (bg y.l) (bg i)) y.l) (en y.l)):=by unfold Ea;rw[if_neg b,if_neg o_,if_neg o_,if_neg o_]
   have g:BQ L y i bg en=(dY L (bg y.l) (bg i) || dY L (dV bg y.l (iI (bg y.l) (bg i)) y.l) (en y.l)):=by unfold BQ;rw[if_neg b,if_neg o_,if_neg o_,if_neg o_]
   rw[f,g,<-Bool.or_assoc]
  refine⟨q.xV o_ (fun p a d=>r.c4 (.inl k) p (h.se y.l p o_ a d)),fun e=>?_⟩;rotate_left;focus refine⟨q.xV o_ (fun p a d=>r.c4 (.inr k) p (h.se y.l p o_ a d)),fun e=>?_⟩
  all_goals
   rw[Bool.or_eq_false_iff,Bool.or_eq_false_iff]at e;have l:=h.same e.1.1;refine⟨u (by rw[e.1.1,e.1.2];rfl),fun j=>o_,fun j=>o_,fun _ p a d=>?_⟩;rw[<-(l y.l p o_ a).1];have:=iG e.2 a (by rw[(l y.l p o_ a).2];exact d);rw[wz]at this;unfold iI at this;rw[Bool.or_eq_true]at this;exact this.elim id (iG e.1.2 a)
theorem wo{y:aF}{p:Nat->Bool}(s:∀c∈w,c<256){q:Nat}(t:q<w.length+2):Bh y w p q=true↔∃b c,b<w.length+2/\p b=true/\c<256/\y.inn c=true/\(∀z,w[b]?=some z->c=z)/\q=GH w.length b:=by
 unfold Bh;by_cases l:q=w.length+1
 .rw [if_pos l,Bool.and_eq_true,List.any_eq_true,Bool.or_eq_true];constructor
  .rintro ⟨⟨c,h,f⟩,a⟩;have h:=List.mem_range.1 h;rcases a with a | a;all_goals
    exact⟨_,c,o_,a,h,f,fun z g=>by have:=nW g;omega,by unfold GH;rw[if_neg o_];exact l⟩
  .rintro ⟨b,c,r,a,h,f,_,d⟩;refine⟨⟨c,List.mem_range.2 h,f⟩,?_⟩;unfold GH at d;by_cases j:b<w.length
   .rw [if_pos j]at d;omega
   .by_cases g:b=w.length
    .rw [<-g];exact .inl a
    .have e:b=w.length+1:=o_;rw[<-e];exact .inr a
 .rw [if_neg l];by_cases j:q=0
  .rw [if_pos j];constructor
   .intro h;cases h
   .rintro ⟨b,c,_,_,_,_,_,d⟩;unfold GH at d;split at d <;> omega
  .rw [if_neg j,Bool.and_eq_true];have h:q-1<w.length:=o_;have r:w.getD (q-1) 0=w[q-1]:=by rw[gd_,gg_ h];rfl
   rw[r];constructor
   .rintro ⟨a,f⟩;refine⟨q-1,_,o_,a,s _ (List.getElem_mem h),f,fun z g=>?_,by unfold GH;rw[if_pos h];omega⟩;rw[gg_ h]at g;exact oi_ g
   .rintro ⟨b,c,_,a,_,f,g,d⟩;have e:b=q-1:=by unfold GH at d;split at d <;> omega
    subst e;refine⟨a,?_⟩;rw[<-g _ (gg_ h)];exact f
theorem E9.up(h:E9 PB PE L n xN en0 bg en more)(t:Ik w PB PE i y)(v:NdK n i y)(C:L=w.length+2)(B:∀c∈w,c<256):E9 PB PE L n xN en0 bg (Hw w y i bg en) (more || DK L w y i bg en)/\((more || DK L w y i bg en)=false->Zv L w y i xN en0):=by
 have f:=v.lt;by_cases d:y.kind=1
 .have p:Hw w y i bg en=dV en i (iI (en i) (Bh y w (bg i))):=by unfold Hw;rw[if_pos d]
  have g:DK L w y i bg en=dY L (en i) (Bh y w (bg i)):=by unfold DK;rw[if_pos d]
  rw[p,g];refine⟨h.uz f (fun q a l=>?_),fun e=>⟨fun _ q a l=>?_,fun k=>o_,fun k=>o_,fun k=>absurd d k⟩⟩
  .rw [C]at a;obtain⟨b,c,x,u,s,A,j,r⟩:=(wo B a).1 l;rw[r];exact t.e1 d b c (h.sb i b f o_ u) s A j
  .rw [Bool.or_eq_false_iff]at e;have j:=h.same e.1;rw[<-(j i q f a).2];refine iG e.2 a ?_;rw[C]at a;obtain⟨b,c,x,u,s⟩:=(wo B a).1 l;exact (wo B a).2 ⟨b,c,x,by rw[(j i b f o_).1];exact u,s⟩
 .have G:=v.kl d;by_cases l:y.kind=2
  .have F:=v.kr (.inl l);have p:Hw w y i bg en=dV en i (iI (en i) (en y.r)):=by unfold Hw;rw[if_neg d,if_pos l]
   have g:DK L w y i bg en=dY L (en i) (en y.r):=by unfold DK;rw[if_neg d,if_pos l]
   rw[p,g];refine⟨h.uz f (fun q a b=>t.e2 (.inl l) q (h.se y.r q o_ a b)),fun e=>⟨fun k=>absurd k d,fun _ q a b=>?_,fun k=>o_,fun _ k=>absurd l k⟩⟩;rw[Bool.or_eq_false_iff]at e;have j:=h.same e.1;rw[<-(j i q f a).2];exact iG e.2 a (by rw[(j y.r q o_ a).2];exact b)
  .have r:∀(p:Nat->Nat->Bool) (g:Bool),Hw w y i bg en=dV p i (iI (p i) (p y.l))->DK L w y i bg en=(g || dY L (p i) (p y.l))->E9 PB PE L n xN en0 bg p (more || g)->((more || g)=false->(y.kind=3->∀q,q<L->en0 y.r q=true->en0 i q=true)/\(y.kind=4\/y.kind=6->∀q,q<L->xN i q=true->en0 i q=true))->E9 PB PE L n xN en0 bg (Hw w y i bg en) (more || DK L w y i bg en)/\((more || DK L w y i bg en)=false->Zv L w y i xN en0):=by intro p g x u s A;rw[x,u,<-Bool.or_assoc];refine⟨s.uz f (fun q a b=>t.eL d l q (s.se y.l q o_ a b)),fun e=>?_⟩;rw[Bool.or_eq_false_iff]at e;obtain⟨D,E⟩:=A e.1;have j:=s.same e.1;refine⟨fun k=>absurd k d,fun k q a b=>D o_ q a b,E,fun _ _ q a b=>?_⟩;rw[<-(j i q f a).2];exact iG e.2 a (by rw[(j y.l q o_ a).2];exact b)
   rcases v.kd with k | k | k | k | k | k
   .exact absurd k d
   .exact absurd k l
   .have F:=v.kr (.inr k);refine r (dV en i (iI (en i) (en y.r))) (dY L (en i) (en y.r)) ?_ ?_ (h.uz f (fun q a b=>t.e2 (.inr k) q (h.se y.r q o_ a b))) (fun e=>⟨fun _ q a b=>?_,fun z=>o_⟩)
    .unfold Hw;rw[if_neg d,if_neg l,if_pos k]
    .unfold DK;rw[if_neg d,if_neg l,if_pos k,if_pos k]
    .rw [Bool.or_eq_false_iff]at e;have j:=h.same e.1;rw[<-(j i q f a).2];exact iG e.2 a (by rw[(j y.r q o_ a).2];exact b)
   .refine r (dV en i (iI (en i) (bg i))) (dY L (en i) (bg i)) ?_ ?_ (h.uz f (fun q a b=>t.e0 (.inl k) q (h.sb i q f a b))) (fun e=>⟨fun z=>o_,fun _ q a b=>?_⟩)
    .unfold Hw;rw[if_neg d,if_neg l,if_neg o_,if_neg o_]
    .unfold DK;rw[if_neg d,if_neg l,if_neg o_,if_neg o_,if_neg o_,if_neg o_]
    .rw [Bool.or_eq_false_iff]at e;have j:=h.same e.1;rw[<-(j i q f a).2];exact iG e.2 a (by rw[(j i q f a).1];exact b)
   .refine r en false ?_ ?_ (by rw[Bool.or_false];exact h) (fun e=>⟨fun z=>o_,fun z=>o_⟩)
    .unfold Hw;rw[if_neg d,if_neg l,if_neg o_,if_pos k]
    .unfold DK;rw[if_neg d,if_neg l,if_neg o_,if_pos k,if_neg o_,if_pos k]
   .refine r (dV en i (iI (en i) (bg i))) (dY L (en i) (bg i)) ?_ ?_ (h.uz f (fun q a b=>t.e0 (.inr k) q (h.sb i q f a b))) (fun e=>⟨fun z=>o_,fun _ q a b=>?_⟩)
    .unfold Hw;rw[if_neg d,if_neg l,if_neg o_,if_neg o_]
    .unfold DK;rw[if_neg d,if_neg l,if_neg o_,if_neg o_,if_neg o_,if_neg o_]
    .rw [Bool.or_eq_false_iff]at e;have j:=h.same e.1;rw[<-(j i q f a).2];exact iG e.2 a (by rw[(j i q f a).1];exact b)
theorem aje(d:UE L y i bg en)(e:Zv L w y i bg en)(f:L=w.length+2)(r:∀c∈w,c<256):Ik w (fun j p=>p<L/\bg j p=true) (fun j p=>p<L/\en j p=true) i y:=by
 refine⟨fun k p a=>⟨a.1,d.c1 k p a.1 a.2⟩,fun k p a=>⟨a.1,d.c2 k p a.1 a.2⟩,fun k p a=>⟨a.1,d.c3 k p a.1 a.2⟩,fun k p a=>⟨a.1,d.c4 k p a.1 a.2⟩,fun k p c a g h l=>?_,fun k q b=>⟨b.1,e.e2 k q b.1 b.2⟩,fun k q b=>⟨b.1,e.e0 k q b.1 b.2⟩,fun s t q b=>⟨b.1,e.eL s t q b.1 b.2⟩⟩;have b:GH w.length p<w.length+2:=by unfold GH;split <;> omega
 refine⟨by rw[f];exact b,e.e1 k _ (by rw[f];exact b) ((wo r b).2 ⟨p,c,by rw[<-f];exact a.1,a.2,g,h,l,rfl⟩)⟩
end
theorem WO{ls:List aC}{ns:List aF}{w:List Nat}{bg en:Nat->Nat->Bool}(t:zi ls ns){x:aC}(s:ls[k]?=some x)(r:L=w.length+2)(z:∀c∈w,c<256)
  (h:E9 (lJ w x.re (dQ (ls.take k)) (fun p=>p=0)) (lK w x.re (dQ (ls.take k)) (fun p=>p=0)) L ns.length bg en bg en false) (b:∀i y,ns[i]?=some y->UE L y i bg en/\Zv L w y i bg en) (e:bg (dQ (ls.take k)+x.re.size-1) 0=true) {q:Nat} (v:q<L):en (dQ (ls.take k)+x.re.size-1) q=true↔oG w x.re (fun p=>p=0) q:=by
 have a:=t.at' k x s;obtain⟨y,_,A⟩:=a.root;constructor
 .intro d;exact (kD x.re).1 (h.se _ q (nW A) v d)
 .rintro ⟨p,u,f,g,l⟩;subst f;exact (adX (w:=w) (PB:=fun j p=>p<L/\bg j p=true) (PE:=fun j p=>p<L/\en j p=true) (fun j y d=>aje (b j y d).1 (b j y d).2 r z) x.re a ⟨o_,e⟩ g l).2
theorem aen{w:List Nat}{x:aM}(d:∀c∈w,c<256):oG w x (fun p=>p=0) w.length↔M x w:=by
 constructor
 .rintro ⟨p,u,rfl,a,b⟩;have:=b.ahE (zl_ _);rw[List.drop_zero]at this;rw[<-this];exact a
 .intro h;exact⟨0,w,rfl,h,Bp.ab9 d (zl_ _) rfl⟩
theorem abo{w:List Nat}{x:aM}(g:∀c∈w,c<256):oG w x (fun p=>p=0) (w.length+1)↔∃v,v≠[]/\(∀c∈v,c<256)/\M x (w++v):=by
 constructor
 .rintro ⟨p,u,rfl,e,f⟩;obtain⟨v,b,d,a⟩:=f.afe (zl_ _);rw[List.drop_zero]at a;exact⟨v,b,d,by rw[<-a];exact e⟩
 .rintro ⟨v,b,d,a⟩;exact⟨0,w++v,rfl,a,Bp.aeO g b d⟩
end Pu
namespace Pu
theorem anB:∀(x:aM) {m k:Nat} {y:aF},(nodes x m)[k]?=some y->(y.kind=1\/y.kind=2\/y.kind=3\/y.kind=4\/y.kind=5\/y.kind=6)/\(y.kind=2\/y.kind=3->y.l<y.r):=by
 have two:∀(a b:aM) (d:Nat) (m k:Nat) (y:aF),(d=2\/d=3)->(∀{m k:Nat} {y:aF},(nodes a m)[k]?=some y->(y.kind=1\/y.kind=2\/y.kind=3\/y.kind=4\/y.kind=5\/y.kind=6)/\(y.kind=2\/y.kind=3->y.l<y.r))->(∀{m k:Nat} {y:aF},(nodes b m)[k]?=some y->(y.kind=1\/y.kind=2\/y.kind=3\/y.kind=4\/y.kind=5\/y.kind=6)/\(y.kind=2\/y.kind=3->y.l<y.r))->
   (nodes a m++nodes b (m+a.size)++[⟨d,m+a.size-1,m+a.size+b.size-1,dW⟩])[k]?=some y->(y.kind=1\/y.kind=2\/y.kind=3\/y.kind=4\/y.kind=5\/y.kind=6)/\(y.kind=2\/y.kind=3->y.l<y.r):=by
  intro a b d m k y q f g h;have pa:=a.size_pos;have r:=b.size_pos;by_cases j:k<a.size
  .rw [aa_,al_ (by rw[bT];exact j)]at h;exact f h
  .by_cases l:k<a.size+b.size
   .rw [aa_,ar_ (by rw[bT];omega),bT,al_ (by rw[bT];omega)]at h;exact g h
   .have p:=(ge_.1 h).1;simp only[la_,bT,lc_,ln_]at p;have e:k=a.size+b.size:=o_;subst e;rw[ar_ (by simp[bT])]at h;simp[bT]at h;subst h;exact⟨by show d=1\/d=2\/d=3\/d=4\/d=5\/d=6;omega,fun _=>by show m+a.size-1<m+a.size+b.size-1;omega⟩
 have one:∀(a:aM) (d:Nat) (m k:Nat) (y:aF),(d=4\/d=5\/d=6)->(∀{m k:Nat} {y:aF},(nodes a m)[k]?=some y->(y.kind=1\/y.kind=2\/y.kind=3\/y.kind=4\/y.kind=5\/y.kind=6)/\(y.kind=2\/y.kind=3->y.l<y.r))->
   (nodes a m++[⟨d,m+a.size-1,0,dW⟩])[k]?=some y->(y.kind=1\/y.kind=2\/y.kind=3\/y.kind=4\/y.kind=5\/y.kind=6)/\(y.kind=2\/y.kind=3->y.l<y.r):=by
  intro a d m k y q f h;by_cases j:k<a.size
  .rw [al_ (by rw[bT];exact j)]at h;exact f h
  .have p:=(ge_.1 h).1;simp only[la_,bT,lc_,ln_]at p;have e:k=a.size:=o_;subst e;rw[ar_ (by rw[bT];omega)]at h;simp[bT]at h;subst h;exact⟨by show d=1\/d=2\/d=3\/d=4\/d=5\/d=6;omega,fun l=>by have:d=2\/d=3:=l;omega⟩
 intro x;induction x with
 | pl T=>
  intro m k y h;cases k with
  | zero=>simp[nodes]at h;subst h;exact⟨.inl rfl,fun l=>by have:(1:Nat)=2\/(1:Nat)=3:=l;omega⟩
  | succ k=>simp[nodes]at h
 | cat a b f g=>intro m k y h;exact two a b 2 m k y (.inl rfl) f g h
 | alt a b f g=>intro m k y h;exact two a b 3 m k y (.inr rfl) f g h
 | star a e=>intro m k y h;exact one a 4 m k y (.inl rfl) e h
 | plus a e=>intro m k y h;exact one a 5 m k y (.inr (.inl rfl)) e h
 | opt a e=>intro m k y h;exact one a 6 m k y (.inr (.inr rfl)) e h
theorem zi.ndK{ls:List aC}{ns:List aF}(h:zi ls ns){y:aF}(d:ns[i]?=some y):NdK ns.length i y:=by
 obtain⟨k,x,f,g,j,b⟩:=h.line d;have e:=anB x.re b;refine⟨nW d,e.1,fun a=>?_,fun a=>?_⟩
 .have:=(Na x.re b a).1;omega
 .have:=(Na x.re b o_).2 a;exact⟨o_,e.2 a⟩
end Pu
open Go.RowKit
theorem MH(B:Nat)(v:V_)(xs:List Int)(n:Int)(w:W_)(r:Bytes B w v xs)(x:B<=w.heap.size)(F:xs.length<=1000000)(z:0<=n)(E:n<=65535) :
  Calls prog 46 #[v,I_ n] w (Z0 B (xs++[n % 256,n / 256]) w):=by
 obtain⟨aS,q,b,d,e⟩:=ip_ info5;have p:=bL r;clear r;go_in;go_wp2_with (first | (at_builtin;refine wo_ _ rfl (.tmp 5) (.tmp 9) 109 rfl B 5 aS (.int .u8 0) 1 1 underlying109 q b d e rfl d_ v xs.length (rq xs) rfl (oa_ p.o _) (a_ w.heap.size 0) 1 1 (rq [n % 256]) rfl rfl (jL rfl) (by intro u a;simp[rq]at a;subst a;rfl) (by unfold maxLen;omega) o_ (by simp;omega) ?_;intro A D s g _) | (at_builtin;refine wo_ _ rfl (.tmp 11) (.tmp 15) 109 rfl B 5 aS (.int .u8 0) 1 1 underlying109 q b d e rfl d_ A (xs.length+1) (rq xs++rq [n % 256]) rfl (oa_ s _) (a_ D.heap.size 0) 1 1 (rq [n / 256]) rfl rfl (jL rfl) (by intro u a;simp[rq]at a;subst a;rfl) (by unfold maxLen;omega) o_ (by have:=g.size;simp at this |-;omega) ?_;intro C G u t _));go_ret;refine⟨C,rfl,?_,?_⟩
 .refine Bytes.on (ys:=[n % 256,n / 256]) rfl ?_;simpa [rq]using u
 .have a:=g.size;have j:=ol_ p.o;have l:=ol_ s;refine Below.grown (Below.alloc (Below.grown (Below.alloc (Br_ _ _) x _) g (by simp;omega) (fun k f=>(j k f).1)) (by simp at a;omega) _) t (by simp at a |-;omega) (fun k f=>(l k f).1)
theorem QJ(ve vr vc:V_)(p:lZ)(w:W_)(hE:om w ve p.ents)(hR:jX w vr p.rules)(hC:Code w vc p.code)(hp:gu p) :
  Calls prog 18 #[.agg #[ve,vr,vc]] w (aab (Pu.rT p) w):=by
 obtain⟨aS,Z,A,B,C⟩:=ip_ info5;obtain⟨O,S,rfl,he1,he2,tL⟩:=hE.read;obtain⟨Q,T,rfl,hr1,hr2,qD⟩:=hR.read;obtain⟨N,R,rfl,hc1,hc2,nP⟩:=hC.read;clear hE hR hC;have hm:=hp.1.1;have hk:=hp.2.1.1;have hn:=hp.2.2.1.1;have HP:=bL hp;clear hp;go_in;go_wp2_with fail;have I:B_ w (w.alloc (c_ #[.slice O p.ents.length S,.slice Q p.rules.length T,.slice N p.code.length R] 42)):=kM _;have a:(w.alloc (c_ #[.slice O p.ents.length S,.slice Q p.rules.length T,.slice N p.code.length R] 42)).heap.size=w.heap.size+1:=i_;have c0:(w.alloc (c_ #[.slice O p.ents.length S,.slice Q p.rules.length T,.slice N p.code.length R] 42)).cell? (a_ w.heap.size 0)=some (.slice O p.ents.length S):=i_;have c1:(w.alloc (c_ #[.slice O p.ents.length S,.slice Q p.rules.length T,.slice N p.code.length R] 42)).cell? (a_ w.heap.size 1)=some (.slice Q p.rules.length T):=i_;have c2:(w.alloc (c_ #[.slice O p.ents.length S,.slice Q p.rules.length T,.slice N p.code.length R] 42)).cell? (a_ w.heap.size 2)=some (.slice N p.code.length R):=i_;generalize w.alloc (c_ #[.slice O p.ents.length S,.slice Q p.rules.length T,.slice N p.code.length R] 42)=Y at *;have K:=bL a;clear a;refine (MH (w.heap.size+1) _ (FU p) p.code.length _ (aeU (by rw[K.o];exact dF) rfl (by simp[FU]) (by rw[K.o])) (by have:=K.o;simp;omega) (by simp[FU]) o_ o_).mono ?_;rintro e w1 ⟨vb,rfl,f,b⟩;have a:Below (w.heap.size+1) Y w1:=((Br_ _ _).alloc (by rw[K.o];exact dF) _).trans b;have r:Hid (Bytes (w.heap.size+1) w1 vb (bC p 0)):=by show Bytes _ _ _ _;rw[VT];exact f
 clear f b;go_wp2_with fail;go_loopw [3,4] (fun b i wr=>∃(k:Nat) (g:V_),k<=p.ents.length/\i=I_ k/\g=b/\Below (w.heap.size+1) Y wr/\Bytes (w.heap.size+1) wr g (bC p k)) (fun _ i _=>p.ents.length-(intOf i).toNat);exact⟨0,_,zl_ _,rfl,rfl,a,r.o⟩;clear r a;obtain⟨k,b,t,rfl,rfl,a,f⟩:=hrel;have q:=a.size;rw[K.o]at q;have aW:=(a.cell (p:=(a_ w.heap.size 0)) i_).trans c0;by_cases l:k<p.ents.length
 .obtain⟨g,d,rfl,G,u⟩:=tL k l;have g0:=(a.cell (p:=(a_ g (d+k))) (by simp;omega)).trans ((I.cell (p:=(a_ g (d+k))) G).trans u);have v:=Cy HP.o l;have s:=Uy p k t;have x:=bL s;clear tL qD nP u s;have r:=bL f;clear f;go_wp2_with fail;refine (MH (w.heap.size+1) _ (bC p k) (Pu.aU p.ents k) _ r.o q (by rw[x.o];omega) v.1 v.2).mono ?_;rintro e w2 ⟨v2,rfl,s,u⟩;have z:=a.trans u;rw[<-VS p k l]at s;clear u g0 aW r;go_wp2;go_roundw;case rel=>exact⟨k+1,_,o_,by go_num,rfl,z,s⟩
  case measure=>simp[intOf];omega
 .have E:k=p.ents.length:=o_;subst E;have r:Hid (Bytes (w.heap.size+1) wr b (bD p 0)):=by show Bytes _ _ _ _;rw[VW];exact f
  clear f tL l t;go_wp2_with fail;clear aW;go_loopw [3,5] (fun b i wr=>∃(k:Nat) (g:V_),k<=p.rules.length/\i=I_ k/\g=b/\Below (w.heap.size+1) Y wr/\Bytes (w.heap.size+1) wr g (bD p k)) (fun _ i _=>p.rules.length-(intOf i).toNat);exact⟨0,_,zl_ _,rfl,rfl,a,r.o⟩;clear r a q;obtain⟨k,b,t,rfl,rfl,a,f⟩:=hrel;have q:=a.size;rw[K.o]at q;have q1:=(a.cell (p:=(a_ w.heap.size 1)) i_).trans c1;by_cases l:k<p.rules.length
  .obtain⟨g,d,rfl,G,u,v,x⟩:=qD k l;have g0:=(a.cell (p:=(a_ g (d+k*3))) (by simp;omega)).trans ((I.cell (p:=(a_ g (d+k*3))) G).trans u);have g1:=(a.cell (p:=(a_ g (d+k*3+1))) (by simp;omega)).trans ((I.cell (p:=(a_ g (d+k*3+1))) G).trans v);have g2:=(a.cell (p:=(a_ g (d+k*3+2))) (by simp;omega)).trans ((I.cell (p:=(a_ g (d+k*3+2))) G).trans x);obtain⟨U,V,W⟩:=zV HP.o l;have r:=VU p k l;have D:=bL r;clear r;have s:=Uz p k t;generalize Pu.rg p.rules k=r at *;obtain⟨J,X,rm⟩:=r;simp only at g0 g1 g2 U V W D;clear qD nP u v x;have v:aN (w.heap.size+1) Y (wr.alloc (c_ #[I_ J,I_ X,I_ rm] 48)) b (bD p k) wr.heap.size #[I_ J,I_ X,I_ rm] 48:=⟨a.alloc q _,oa_ f _,hn_ _ _,by simp;omega⟩;generalize u:bD p k=z at *;clear u f;have hxl:z.length<=1000:=o_;have S0:=bL v;clear v s;go_wp2_with (first | (at_builtin;refine wo_ _ rfl (.tmp 49) (.tmp 53) 109 rfl (w.heap.size+1) 5 aS (.int .u8 0) 1 1 underlying109 Z A B C rfl d_ b (z).length (rq (z)) rfl (oa_ S0.o.byt _) (a_ (wr.heap.size+1) 0) 1 1 (rq [J]) rfl rfl (jL i_) (by intro u v;simp[rq]at v;subst v;rfl) (by unfold maxLen;simp;omega) (by simp;omega) (by have:=S0.o.sz;simp;omega) ?_;intro v1 w1 s x _;have F:=S0.o.app d_ rfl s x;clear s x;have d1:=mG (j:=1) F.loc rfl;have d1':=mG (j:=2) F.loc rfl) | (at_builtin;refine wo_ _ rfl (.tmp 55) (.tmp 59) 109 rfl (w.heap.size+1) 5 aS (.int .u8 0) 1 1 underlying109 Z A B C rfl d_ v1 (z++[J]).length (rq (z++[J])) rfl (oa_ F.byt _) (a_ w1.heap.size 0) 1 1 (rq [X]) rfl rfl (jL i_) (by intro u v;simp[rq]at v;subst v;rfl) (by unfold maxLen;simp;omega) (by simp;omega) (by have:=F.sz;simp;omega) ?_;intro v2 w2 s x _;have H:=F.app d_ rfl s x;clear s x;have d2:=mG (j:=2) H.loc rfl) | (at_builtin;refine wo_ _ rfl (.tmp 61) (.tmp 65) 109 rfl (w.heap.size+1) 5 aS (.int .u8 0) 1 1 underlying109 Z A B C rfl d_ v2 (z++[J]++[X]).length (rq (z++[J]++[X])) rfl (oa_ H.byt _) (a_ w2.heap.size 0) 1 1 (rq [rm]) rfl rfl (jL i_) (by intro u v;simp[rq]at v;subst v;rfl) (by unfold maxLen;simp;omega) (by simp;omega) (by have:=H.sz;simp;omega) ?_;intro v3 w3 s x _;have u:=H.app d_ rfl s x;clear s x));go_roundw;case rel=>exact⟨k+1,_,o_,by go_num,rfl,u.qK,by have:=u.byt;rw[D.o];simpa using this⟩
   case measure=>simp[intOf];omega
  .have E:k=p.rules.length:=o_;subst E;have r:Hid (Bytes (w.heap.size+1) wr b (bG p 0)):=by show Bytes _ _ _ _;rw[VY];exact f
   clear f qD l t;go_wp2_with fail;clear q1;go_loopw [3,7] (fun b i wr=>∃(k:Nat) (g:V_),k<=p.code.length/\i=I_ k/\g=b/\Below (w.heap.size+1) Y wr/\Bytes (w.heap.size+1) wr g (bG p k)) (fun _ i _=>p.code.length-(intOf i).toNat);exact⟨0,_,zl_ _,rfl,rfl,a,r.o⟩;clear r a q;obtain⟨k,b,t,rfl,rfl,a,f⟩:=hrel;have q:=a.size;rw[K.o]at q;have q2:=(a.cell (p:=(a_ w.heap.size 2)) i_).trans c2;by_cases l:k<p.code.length
   .obtain⟨g,d,rfl,G,u,v,x,z⟩:=nP k l;have g0:=(a.cell (p:=(a_ g (d+k*4))) (by simp;omega)).trans ((I.cell (p:=(a_ g (d+k*4))) G).trans u);have g1:=(a.cell (p:=(a_ g (d+k*4+1))) (by simp;omega)).trans ((I.cell (p:=(a_ g (d+k*4+1))) G).trans v);have g2:=(a.cell (p:=(a_ g (d+k*4+2))) (by simp;omega)).trans ((I.cell (p:=(a_ g (d+k*4+2))) G).trans x);have g3:=(a.cell (p:=(a_ g (d+k*4+3))) (by simp;omega)).trans ((I.cell (p:=(a_ g (d+k*4+3))) G).trans z);obtain⟨U,V,W,X⟩:=Cz HP.o l;have r:=VX p k l;have D:=bL r;clear r;have s:=Hy p k t;generalize Pu.aO p.code k=r at *;obtain⟨J,xa,xb,xt⟩:=r;simp only at g0 g1 g2 g3 U V W X D;clear nP u v x z;have v:aN (w.heap.size+1) Y (wr.alloc (c_ #[I_ J,I_ xa,I_ xb,I_ xt] 50)) b (bG p k) wr.heap.size #[I_ J,I_ xa,I_ xb,I_ xt] 50:=⟨a.alloc q _,oa_ f _,hn_ _ _,by simp;omega⟩;generalize u:bG p k=z at *;clear u f;have hxl:z.length<=300000:=o_;have S0:=bL v;clear v s;go_wp2_with (first | (at_builtin;refine wo_ _ rfl (.tmp 79) (.tmp 83) 109 rfl (w.heap.size+1) 5 aS (.int .u8 0) 1 1 underlying109 Z A B C rfl d_ b (z).length (rq (z)) rfl (oa_ S0.o.byt _) (a_ (wr.heap.size+1) 0) 1 1 (rq [J]) rfl rfl (jL i_) (by intro u v;simp[rq]at v;subst v;rfl) (by unfold maxLen;simp;omega) (by simp;omega) (by have:=S0.o.sz;simp;omega) ?_;intro v1 w1 s x _;have F:=S0.o.app d_ rfl s x;clear s x;have d1:=mG (j:=1) F.loc rfl) | (at_builtin;refine wo_ _ rfl (.tmp 85) (.tmp 89) 109 rfl (w.heap.size+1) 5 aS (.int .u8 0) 1 1 underlying109 Z A B C rfl d_ v1 (z++[J]).length (rq (z++[J])) rfl (oa_ F.byt _) (a_ w1.heap.size 0) 1 1 (rq [xa]) rfl rfl (jL i_) (by intro u v;simp[rq]at v;subst v;rfl) (by unfold maxLen;simp;omega) (by simp;omega) (by have:=F.sz;simp;omega) ?_;intro v2 w2 s x _;have H:=F.app d_ rfl s x;clear s x;have d2:=mG (j:=2) H.loc rfl) | (at_builtin;refine wo_ _ rfl (.tmp 91) (.tmp 95) 109 rfl (w.heap.size+1) 5 aS (.int .u8 0) 1 1 underlying109 Z A B C rfl d_ v2 (z++[J]++[xa]).length (rq (z++[J]++[xa])) rfl (oa_ H.byt _) (a_ w2.heap.size 0) 1 1 (rq [xb]) rfl rfl (jL i_) (by intro u v;simp[rq]at v;subst v;rfl) (by unfold maxLen;simp;omega) (by simp;omega) (by have:=H.sz;simp;omega) ?_;intro v3 w3 s x _;have u:=H.app d_ rfl s x;clear s x;have d3:=mG (j:=3) u.loc rfl));refine (MH (w.heap.size+1) _ (z++[J]++[xa]++[xb]) xt _ u.byt u.sz (by simp;omega) X.1 X.2).mono ?_;rintro e w4 ⟨v4,rfl,anb,v⟩;have AA:=u.qK.trans v;clear v F H u d1 d2 d3;go_wp2;go_roundw;case rel=>exact⟨k+1,_,o_,by go_num,rfl,AA,by rw[D.o];simpa using anb⟩
    case measure=>simp[intOf];omega
   .have E:k=p.code.length:=o_;subst E;have s:=Hy p p.code.length dF;obtain⟨g,d,rfl,r⟩:=f.str o_;clear f nP l t s;go_wp2;go_ret;exact⟨rfl,I.trans (a.mono o_)⟩
end Go.Proofs.YtmccnmgaoppogabGreat
