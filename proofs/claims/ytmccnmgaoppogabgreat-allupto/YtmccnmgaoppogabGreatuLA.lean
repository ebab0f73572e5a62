import Derived.Test.YtmccnmgaoppogabGreatuJB
import Derived.Test.YtmccnmgaoppogabGreatuKay
namespace Go.Proofs.YtmccnmgaoppogabGreat
open Pu
set_option linter.all false
variable {i n s t:Nat} {kinds:List Nat} {D:bJ}
namespace Pu
theorem Dw(l:List Nat):∀(f a c:Nat),a<=c->c<=jD l a f->l.getD c 0=l.getD a 0:=by
 intro f;induction f with
 | zero=>
  intro a c d b;have:c=a:=by unfold jD at b;omega
  rw[this]
 | succ f g=>
  intro a c d b;unfold jD at b;split at b
  .rename_i h;by_cases e:c=a
   .rw [e]
   .rw [g (a+1) c o_ b,h.2]
  .have:c=a:=o_;rw[this]
def Way(l:List Nat)(x:ed):Prop:=∃a b:Nat,a<=b/\b<256/\x=⟨3,a,b,(l.getD a 0:Nat)⟩/\l.getD a 0≠0/\∀c,a<=c->c<=b->l.getD c 0=l.getD a 0
theorem MQ(l:List Nat):∀(f a:Nat) (acc:List ed),(∀x∈acc,Way l x)->∀x∈pV l f a acc,Way l x:=by
 intro f;induction f with
 | zero=>intro a acc h;exact h
 | succ f p=>
  intro a acc h;unfold pV;split
  .rename_i g;have bd:=zg l 256 a g;refine p _ _ ?_;split
   .exact h
   .rename_i b;intro x j;rcases ma_.1 j with k | k
    .exact h x k
    .refine⟨a,jD l a 256,bd.1,bd.2,List.mem_singleton.1 k,b,fun c d e=>Dw l 256 a c d e⟩
  .exact h
theorem zX(l:List Nat):∀x∈iT l,Way l x:=MQ l 257 0 [] (fun x a=>by simp at a)
theorem UB(l:List Nat):∀(f a:Nat) (acc:List ed) (x:ed),x∈acc->x∈pV l f a acc:=by
 intro f;induction f with
 | zero=>intro a acc x h;exact h
 | succ f b=>
  intro a acc x h;unfold pV;split
  .refine b _ _ _ ?_;split
   .exact h
   .exact List.mem_append_left _ h
  .exact h
theorem MP(l:List Nat)(c:Nat)(p:c<256)(e:l.getD c 0≠0):∀(f a:Nat) (acc:List ed),257<=f+a->a<=c->∃x∈pV l f a acc,x.a<=c/\(c:Int)<=x.b:=by
 intro f;induction f with
 | zero=>intro a acc g b;omega
 | succ f k=>
  intro a acc g b;have d:a<256:=o_;have bd:=zg l 256 a d;unfold pV;rw[if_pos d];by_cases h:c<=jD l a 256
  .have j:=Dw l 256 a c b h;rw[if_neg (by rw[<-j];exact e)];refine⟨⟨3,a,(jD l a 256:Nat),(l.getD a 0:Nat)⟩,UB l _ _ _ _ (List.mem_append_right _ (List.mem_singleton.2 rfl)),?_,?_⟩
   .show (a:Int)<=c;omega
   .show (c:Int)<=(jD l a 256:Nat);omega
  .exact k _ _ o_ o_
theorem H9(l:List Nat)(c:Nat)(b:c<256)(a:l.getD c 0≠0):∃x∈iT l,x.a<=c/\(c:Int)<=x.b:=MP l c b a 257 0 [] o_ (zl_ _)
theorem Gj(k:aA)(i:Nat)(x:ed)(h:(dR k)[i]?=some x) :
  (x=⟨1,k.rule,0,0⟩/\k.rule≠-1/\∃y,(dR k)[i+1]?=some y/\(y.op=2\/y.op=5))\/x=⟨2,0,0,0⟩\/x=⟨5,0,0,0⟩\/(Way k.longer x/\i+1<(dR k).length):=by
 have f:=zX k.longer;have c:=(ge_.1 h).1;unfold dR at h c |-
 generalize iT k.longer=a at *;by_cases d:k.rule=-1
 .rw [if_pos d]at h c |-
  by_cases b:a.length=0
  .have:a=[]:=List.length_eq_zero_iff.1 b;subst this
   match i,h with
   | 0,h=>exact .inr (.inr (.inl (by simpa using h.symm)))
   | i+1,h=>simp at h
  .rw [if_neg b]at h c |-
   match i,h with
   | 0,h=>exact .inr (.inl (by simpa using h.symm))
   | i+1,h=>
    have h:(a++[(⟨5,0,0,0⟩:ed)])[i]?=some x:=by simpa using h
    by_cases e:i<a.length
    .rw [al_ e]at h;exact .inr (.inr (.inr ⟨f x (mg_ h),by simp;omega⟩))
    .rw [ar_ o_]at h;have:i-a.length=0:=by have:=(ge_.1 h).1;simpa using this
     rw[this]at h;exact .inr (.inr (.inl (by simpa using h.symm)))
 .rw [if_neg d]at h c |-
  by_cases b:a.length=0
  .have:a=[]:=List.length_eq_zero_iff.1 b;subst this
   match i,h with
   | 0,h=>exact .inl ⟨by simpa using h.symm,d,⟨5,0,0,0⟩,i_,.inr rfl⟩
   | 1,h=>exact .inr (.inr (.inl (by simpa using h.symm)))
   | i+2,h=>simp at h
  .rw [if_neg b]at h c |-
   match i,h with
   | 0,h=>exact .inl ⟨by simpa using h.symm,d,⟨2,0,0,0⟩,i_,.inl rfl⟩
   | 1,h=>exact .inr (.inl (by simpa using h.symm))
   | i+2,h=>
    have h:(a++[(⟨5,0,0,0⟩:ed)])[i]?=some x:=by simpa using h
    by_cases e:i<a.length
    .rw [al_ e]at h;exact .inr (.inr (.inr ⟨f x (mg_ h),by simp;omega⟩))
    .rw [ar_ o_]at h;have:i-a.length=0:=by have:=(ge_.1 h).1;simpa using this
     rw[this]at h;exact .inr (.inr (.inl (by simpa using h.symm)))
theorem abE(k:aA):1<=(dR k).length/\(dR k).length<=259:=by have:=Hz k.longer;unfold dR;by_cases a:k.rule=-1 <;> by_cases b:(iT k.longer).length=0 <;> simp[a,b] <;> omega
theorem Xw(k:aA):∃y,(dR k)[0]?=some y/\(y.op=1\/y.op=2\/y.op=5):=by
 unfold dR;by_cases a:k.rule=-1 <;> by_cases b:(iT k.longer).length=0
 .rw [List.length_eq_zero_iff.1 b];simp[a]
 .simp [a,b]
 .simp [a]
 .simp [a]
def lL:Nat->List aA->List Nat
 | _,[]=>[]
 | n,k::l=>n::lL (n+(dR k).length) l
theorem Bg:∀(l:List aA) (n:Nat),(lL n l).length=l.length:=by
 intro l;induction l with
 | nil=>intro n;rfl
 | cons k l a=>intro n;rw[lL,lc_,a,lc_]
theorem za(l:List aA):∀(c:List ed) (st:List Nat),l.foldl JF (c,st)=(c++l.flatMap dR,st++lL c.length l):=by
 induction l with
 | nil=>intro c st;simp[lL]
 | cons k l a=>intro c st;rw[List.foldl_cons];show l.foldl JF (c++dR k,st++[c.length])=_;rw[a,List.flatMap_cons,lL];simp[aa_]
theorem MC:∀(l:List aA) (n j:Nat) (k:aA),l[j]?=some k->∃o,(lL n l)[j]?=some (n+o)/\∀i x,(dR k)[i]?=some x->(l.flatMap dR)[o+i]?=some x:=by
 intro l;induction l with
 | nil=>intro n j k h;simp at h
 | cons a l e=>
  intro n j k h
  match j,h with
  | 0,h=>
   have:a=k:=by simpa using h
   subst this;refine⟨0,by simp[lL],fun i x b=>?_⟩;rw[Nat.zero_add,List.flatMap_cons,al_ (ge_.1 b).1];exact b
  | j+1,h=>
   obtain⟨o,c,d⟩:=e (n+(dR a).length) j k (by simpa using h);refine⟨(dR a).length+o,?_,fun i x b=>?_⟩
   .rw [lL,cs_,c,Nat.add_assoc]
   .rw [List.flatMap_cons,ar_ o_,(o_:(dR a).length+o+i-(dR a).length=o+i)];exact d i x b
theorem aau:∀(l:List aA) (n i:Nat) (x:ed),(l.flatMap dR)[i]?=some x->∃(j:Nat) (k:aA) (o a:Nat),l[j]?=some k/\(lL n l)[j]?=some (n+o)/\i=o+a/\(dR k)[a]?=some x:=by
 intro l;induction l with
 | nil=>intro n i x h;simp at h
 | cons b l g=>
  intro n i x h;rw[List.flatMap_cons]at h;by_cases c:i<(dR b).length
  .rw [al_ c]at h;exact⟨0,b,0,i,rfl,by simp[lL],o_,h⟩
  .rw [ar_ o_]at h;obtain⟨j,k,o,a,d,e,p,f⟩:=g (n+(dR b).length) _ x h;refine⟨j+1,k,(dR b).length+o,a,by simpa using d,?_,o_,f⟩;rw[lL,cs_,e,Nat.add_assoc]
def Uj(n:Nat)(all:List aA):List Nat:=0::lL n (all.drop 1)
def oJ(n:Nat)(all:List aA):List ed:=if all.length<=1 then [⟨5,0,0,0⟩] else ((all.drop 1).flatMap dR).map (lY (Uj n all))
theorem Gp(code:List ed)(all:List aA):oq code all=code++oJ code.length all:=by
 unfold oq oJ;split
 .rfl
 .rw [za];simp[Uj]
theorem xS(l:List aA):l.length<=(l.flatMap dR).length/\(l.flatMap dR).length<=259*l.length:=by
 induction l with
 | nil=>simp
 | cons k l a=>have:=abE k;rw[List.flatMap_cons,la_,lc_];omega
theorem Ct(n:Nat)(all:List aA)(h:all.length<=42):1<=(oJ n all).length/\(oJ n all).length<=10619:=by
 unfold oJ;split
 .simp
 .have:=xS (all.drop 1);rw[List.length_drop]at this;rw[lm_];omega
def Blo(code:List ed)(st:List Nat)(s:Nat)(k:aA):Prop:=∀i x,(dR k)[i]?=some x->code[s+i]?=some (lY st x)
def Q9(code:List ed)(e:Nat)(all:List aA):Prop:=(all.length<=1/\code[e]?=some ⟨5,0,0,0⟩)\/
 (2<=all.length/\∃st:List Nat,st.length=all.length/\st[1]?=some e/\∀j k,all[j]?=some k->1<=j->∃s,st[j]?=some s/\Blo code st s k)
theorem xU{α:Type}{l:List α}{x:α}(h:l[i]?=some x)(r:List α):(l++r)[i]?=some x:=by rw[al_ (ge_.1 h).1];exact h
theorem Blo.more{code:List ed}{st:List Nat}{s:Nat}{k:aA}(h:Blo code st s k)(r:List ed):Blo (code++r) st s k:=fun i x a=>xU (h i x a) r
theorem Q9.more{code:List ed}{e:Nat}{all:List aA}(h:Q9 code e all)(r:List ed):Q9 (code++r) e all:=by
 rcases h with ⟨a,b⟩ | ⟨a,st,b,c,d⟩
 .exact .inl ⟨a,xU b r⟩
 .refine .inr ⟨a,st,b,c,fun j k l h=>?_⟩;obtain⟨s,f,g⟩:=d j k l h;exact⟨s,f,g.more r⟩
theorem afR(code:List ed)(all:List aA)(c:¬all.length<=1)(j:Nat)(k:aA)(d:all[j]?=some k)(h:1<=j):∃s,(Uj code.length all)[j]?=some s/\Blo (code++oJ code.length all) (Uj code.length all) s k:=by
 unfold oJ;rw[if_neg c];obtain⟨j,rfl⟩:∃f,j=f+1:=⟨j-1,o_⟩;obtain⟨o,a,b⟩:=MC (all.drop 1) code.length j k (by rw[List.getElem?_drop,Nat.add_comm];exact d);refine⟨code.length+o,by rw[Uj,cs_];exact a,fun i x e=>?_⟩;have:=b i x e;rw[ar_ o_,(o_:code.length+o+i-code.length=o+i),gm_,this];rfl
theorem Xz(code:List ed)(all:List aA):Q9 (code++oJ code.length all) code.length all:=by
 by_cases c:all.length<=1
 .unfold oJ;rw[if_pos c];exact .inl ⟨c,i_⟩
 .refine .inr ⟨o_,Uj code.length all,?_,?_,afR code all c⟩
  .simp only[Uj,lc_,Bg,List.length_drop];omega
  .match all,c with
   | [],c=>simp at c
   | [_],c=>simp at c
   | k0::k1::l,_=>simp[Uj,lL]
def Gi(code:List ed)(R i:Nat)(x:ed):Prop:=
 (x.op=1/\0<=x.a/\x.a<R/\x.b=0/\x.bH=0/\∃y,code[i+1]?=some y/\(y.op=2\/y.op=5))\/x=⟨2,0,0,0⟩\/x=⟨5,0,0,0⟩\/
 (x.op=3/\0<=x.a/\x.a<=x.b/\x.b<=255/\i+1<code.length/\∃(t:Nat) (y:ed),x.bH=t/\code[t]?=some y/\(y.op=1\/y.op=2\/y.op=5))
theorem Gi.more{code:List ed}{R i:Nat}{x:ed}(h:Gi code R i x)(r:List ed):Gi (code++r) R i x:=by
 rcases h with ⟨a,b,c,d,g,y,e,f⟩ | h | h | ⟨a,b,c,d,g,t,y,e,f,j⟩
 .exact .inl ⟨a,b,c,d,g,y,xU e r,f⟩
 .exact .inr (.inl h)
 .exact .inr (.inr (.inl h))
 .exact .inr (.inr (.inr ⟨a,b,c,d,by rw[la_];omega,t,y,e,xU f r,j⟩))
def ER(R:Nat)(all:List aA):Prop:=all.length<=42/\∀k∈all,(k.rule=-1\/(0<=k.rule/\k.rule<R))/\k.longer.length=256/\∀b,k.longer.getD b 0<all.length
theorem Pj(st:List Nat)(x:ed):(lY st x).op=x.op:=by unfold lY;split <;> rfl
theorem aeJ(R:Nat)(code:List ed)(all:List aA)(h:ER R all)(i:Nat)(x:ed)(d:(oJ code.length all)[i]?=some x):Gi (code++oJ code.length all) R (code.length+i) x:=by
 by_cases c:all.length<=1
 .unfold oJ at d;rw[if_pos c]at d
  match i,d with
  | 0,d=>exact .inr (.inr (.inl (by simpa using d.symm)))
  | i+1,d=>simp at d
 .have F:=afR code all c;have G:oJ code.length all=((all.drop 1).flatMap dR).map (lY (Uj code.length all)):=by unfold oJ;rw[if_neg c]
  rw[G,gm_]at d;have T:(oJ code.length all).length=((all.drop 1).flatMap dR).length:=by rw[G,lm_]
  cases hf:((all.drop 1).flatMap dR)[i]? with
  | none=>rw[hf]at d;cases d
  | some B=>
   rw[hf]at d;have d:lY (Uj code.length all) B=x:=by simpa using d
   obtain⟨j,k,o,g,r,Q,Z,S⟩:=aau (all.drop 1) code.length i B hf;rw[List.getElem?_drop,Nat.add_comm]at r;obtain⟨s,J,H⟩:=F (j+1) k r o_;have z:s=code.length+o:=by rw[Uj,cs_,Q]at J;exact (oi_ J).symm
   have u:=h.2 k (mg_ r);subst d;rcases Gj k g B S with ⟨e,I,y,U,A⟩ | e | e | ⟨⟨a,b,w1,w2,rfl,w4,_⟩,V⟩
   .subst e;have:=H (g+1) y U;refine .inl ⟨rfl,?_,?_,rfl,rfl,lY (Uj code.length all) y,?_,by rw[Pj];exact A⟩
    .show 0<=k.rule;rcases u.1 with e | e
     .exact absurd e I
     .exact e.1
    .show k.rule<R;rcases u.1 with e | e
     .exact absurd e I
     .exact e.2
    .rw [z]at this;rw[(o_:code.length+i+1=code.length+o+(g+1))];exact this
   .subst e;exact .inr (.inl rfl)
   .subst e;exact .inr (.inr (.inl rfl))
   .have w:=u.2.2 a;obtain⟨p,v⟩:∃p,all[k.longer.getD a 0]?=some p:=⟨_,gg_ w⟩;obtain⟨L,N,O⟩:=F _ p v o_;obtain⟨y,W,X⟩:=Xw p;have Y:=O 0 y W;have f:code.length+i+1<(code++oJ code.length all).length:=by have lU:=(ge_.1 (H (g+1) _ (gg_ V))).1;omega
    refine .inr (.inr (.inr ⟨rfl,?_,?_,?_,f,L,lY (Uj code.length all) y,?_,Y,by rw[Pj];exact X⟩))
    .show (0:Int)<=a;omega
    .show (a:Int)<=b;omega
    .show (b:Int)<=255;omega
    .show (((Uj code.length all).getD (((k.longer.getD a 0:Nat):Int)).toNat 0:Nat):Int)=L;rw[tn_,gd_ (l:=Uj code.length all),N];rfl
structure V6(R:Nat)(code:List ed):Prop where
 gi:∀i x,code[i]?=some x->Gi code R i x
 last:code=[]\/∃x,code[code.length-1]?=some x/\x.op=5
theorem Tg(n:Nat)(all:List aA):∃x,(oJ n all)[(oJ n all).length-1]?=some x/\x.op=5:=by
 unfold oJ;by_cases c:all.length<=1
 .rw [if_pos c];exact⟨_,rfl,rfl⟩
 .rw [if_neg c];have b:(all.drop 1)≠[]:=fun e=>by have:=congrArg List.length e;rw[List.length_drop]at this;simp at this;omega
  obtain⟨l,k,a⟩:∃l k,all.drop 1=l++[k]:=⟨_,_,(List.dropLast_concat_getLast b).symm⟩;obtain⟨r,d⟩:∃r,dR k=r++[⟨5,0,0,0⟩]:=⟨_,rfl⟩;have:(all.drop 1).flatMap dR=(l.flatMap dR++r)++[⟨5,0,0,0⟩]:=by rw[a,List.flatMap_append,List.flatMap_cons,List.flatMap_nil,List.append_nil,d,aa_]
  rw[this];refine⟨⟨5,0,0,0⟩,?_,rfl⟩;simp[lY]
theorem V6.mode{R:Nat}{code:List ed}(h:V6 R code){all:List aA}(b:ER R all):V6 R (code++oJ code.length all):=by
 refine⟨fun i x a=>?_,?_⟩
 .by_cases c:i<code.length
  .rw [al_ c]at a;exact (h.gi i x a).more _
  .rw [ar_ o_]at a;have:=aeJ R code all b _ x a;rwa[(o_:code.length+(i-code.length)=i)]at this
 .right;obtain⟨x,c,d⟩:=Tg code.length all;have e:=(Ct code.length all b.1).1;refine⟨x,?_,d⟩;rw[la_,ar_ o_,(o_:code.length+(oJ code.length all).length-1-code.length=(oJ code.length all).length-1)];exact c
structure Laid(R:Nat)(modes:List (List aA))(q:List Int × List ed):Prop where
 lain:V6 R q.2
 len:modes.length<=q.2.length/\q.2.length<=10619*modes.length
 ents:q.1.length=modes.length
 at_:∀(j:Nat) (all:List aA),modes[j]?=some all->∃e:Nat,q.1[j]?=some (e:Int)/\e<q.2.length/\Q9 q.2 e all
theorem OZ(R:Nat)(b:List (List aA))(h:∀m∈b,ER R m):Laid R b (uP b):=by
 have g:∀(a done:List (List aA)) (q:List Int × List ed),(∀m∈a,ER R m)->Laid R done q->Laid R (done++a) (a.foldl (fun q m=>(q.1++[(q.2.length:Int)],oq q.2 m)) q):=by
  intro a;induction a with
  | nil=>intro done q _ f;simpa using f
  | cons m a u=>
   intro done q l f;rw[List.foldl_cons,(i_:done++m::a=(done++[m])++a)];refine u _ _ (fun e c=>l e (mc_ _ c)) ?_;have k:=l m (ms_ ..);rw[Gp];have x:=Ct q.2.length m k.1;have v:=f.len;refine⟨f.lain.mode k,?_,by simp[f.ents],fun j all d=>?_⟩
   .simp only[la_,lc_,ln_];omega
   .by_cases c:j<done.length
    .rw [al_ c]at d;obtain⟨e,p,w,r⟩:=f.at_ j all d;exact⟨e,xU p _,by simp only[la_];omega,r.more _⟩
    .rw [ar_ o_]at d;have e:j-done.length=0:=by have:=(ge_.1 d).1;simpa using this
     rw[e]at d;have:m=all:=by simpa using d
     subst this;refine⟨q.2.length,?_,by simp only[la_];omega,Xz _ _⟩;rw[ar_ (by have:=f.ents;omega),show j-q.1.length=0 by have:=f.ents;omega];rfl
 have:=g b [] ([],[]) h ⟨⟨fun i x a=>by simp at a,.inl rfl⟩,i_,rfl,fun j all d=>by simp at d⟩;simpa [uP]using this
theorem V6.aj7{R:Nat}{code:List ed}(h:V6 R code):wW code:=by
 refine⟨fun i=>if (code.getD i aS).op=3 then 2+(code.length-i) else if (code.getD i aS).op=1 then 1 else 0,fun i f j b=>?_⟩;have k:code[i]?=some (code.getD i aS):=by rw[gd_,gg_ f];rfl
 have g:=h.gi i _ k;have d:∀{t:Nat} {y:ed},code[t]?=some y->code.getD t aS=y:=fun e=>by rw[gd_,e];rfl
 unfold succ fst snd at b;show (if (code.getD j aS).op=3 then 2+(code.length-j) else if (code.getD j aS).op=1 then 1 else 0)<(if (code.getD i aS).op=3 then 2+(code.length-i) else if (code.getD i aS).op=1 then 1 else 0);generalize code.getD i aS=x at *;rcases g with ⟨a,_,_,_,_,y,c,e⟩ | rfl | rfl | ⟨a,_,_,_,l,t,y,c,e,p⟩
 .rw [if_pos (.inl a),if_neg o_]at b;have:j=i+1:=by simpa using b
  subst this;rw[d c,if_neg o_,if_neg o_,if_neg o_,if_pos a];omega
 .simp at b
 .simp at b
 .rw [if_pos (.inr a),if_pos (.inl a)]at b;have:j=i+1\/j=x.bH.toNat:=by simpa using b
  rcases this with rfl | rfl
  .rw [if_pos a];split
   .omega
   .split <;> omega
  .rw [if_pos a,c,tn_,d e,if_neg o_];split <;> omega
theorem Laid.right{R:Nat}{b:List (List aA)}{q:List Int × List ed}{a:List mg}(h:Laid R b q)(z:1<=b.length/\b.length<=4)(r:uo a b.length)(p:a.length=R):gu ⟨q.1,a,q.2⟩:=by
 have w:=h.len;refine⟨⟨by have:=h.ents;show 1<=q.1.length/\q.1.length<=4;omega,fun i f=>?_⟩,?_,⟨⟨?_,?_⟩,fun i f=>?_,?_⟩,h.lain.aj7⟩
 .have f:i<q.1.length:=f;obtain⟨e,c,d,_⟩:=h.at_ i _ (gg_ (by have:=h.ents;omega));show 0<=q.1.getD i 0/\q.1.getD i 0<q.2.length;rw[gd_,c];simp only[Option.getD_some];omega
 .show uo a q.1.length;rw[h.ents];exact r
 .show 1<=q.2.length;omega
 .show q.2.length<=50000;omega
 .have f:i<q.2.length:=f;have u:q.2[i]?=some (aO q.2 i):=by unfold aO;rw[gd_,gg_ f];rfl
  show qm a.length q.2.length (aO q.2 i);rcases h.lain.gi i _ u with ⟨c,d,g,j,k,_⟩ | e | e | ⟨c,d,g,j,_,t,y,v,l,_⟩
  .exact .inl ⟨c,d,by rw[p];exact g,j,k⟩
  .rw [e];exact .inr (.inl ⟨.inl rfl,rfl,rfl,rfl⟩)
  .rw [e];exact .inr (.inl ⟨.inr rfl,rfl,rfl,rfl⟩)
  .have:=(ge_.1 l).1;exact .inr (.inr (.inl ⟨c,d,g,j,o_,o_⟩))
 .rcases h.lain.last with e | ⟨x,c,d⟩
  .have:q.2.length=0:=by rw[e];rfl
   omega
  .right;show (aO q.2 (q.2.length-1)).op=5;unfold aO;rw[gd_,c];exact d
end Pu
namespace Pu
structure Srt(n:Nat)(q:iw):Prop where
 kinds:q.kinds.length=n
 firsts:q.firsts.length<=n
 set:∀o∈q.firsts,o<n
 kind:∀k∈q.kinds,k<q.firsts.length
theorem Jy(ss:List aN)(rs:List Int)(kinds:List Nat)(n:Nat):Srt n (fZ ss rs kinds n):=by
 have h:=vJ ss rs kinds n;refine⟨h.1,h.2.1,h.2.2,?_⟩;clear h;induction n with
 | zero=>intro k a;simp[fZ]at a
 | succ n c=>
  rw[tC];intro k a;have a:k∈(fZ ss rs kinds n).kinds++[iL ss rs kinds n (fZ ss rs kinds n).firsts]:=a;show k<(if iL ss rs kinds n (fZ ss rs kinds n).firsts=(fZ ss rs kinds n).firsts.length then (fZ ss rs kinds n).firsts++[n] else (fZ ss rs kinds n).firsts).length;have b:=Cg ss rs kinds n (fZ ss rs kinds n).firsts;have d:(fZ ss rs kinds n).firsts.length<=(if iL ss rs kinds n (fZ ss rs kinds n).firsts=(fZ ss rs kinds n).firsts.length then (fZ ss rs kinds n).firsts++[n] else (fZ ss rs kinds n).firsts).length:=by split <;> simp
  rcases ma_.1 a with h | h
  .have:=c k h;omega
  .rw [List.mem_singleton.1 h];split
   .rename_i e;simp;omega
   .omega
theorem Uc(ss:List aN)(rs:List Int):∀(f:Nat) (q:iw),(f=0->Srt ss.length q)->Srt ss.length (oh ss rs f q):=by
 intro f;induction f with
 | zero=>intro q h;exact h rfl
 | succ f a=>
  intro q _;unfold oh;split
  .exact Jy ..
  .exact a _ (fun _=>Jy ..)
theorem Ke(ss:List aN)(rs:List Int):Srt ss.length (oK ss rs):=Uc ss rs _ _ (fun h=>o_)
theorem Li(ls:List aD)(t:List Nat):gX ls t=-1\/(0<=gX ls t/\gX ls t<ls.length):=by
 rcases wL t ls 0 with ⟨h,_⟩ | ⟨i,x,a,b,_⟩
 .exact .inl h
 .have:=(ge_.1 a).1;unfold gX;omega
theorem abF(ls:List aD)(ss:List aN)(h:1<=ss.length)(j:ss.length<=42):ER ls.length (jW ls ss):=by
 have d:=Ke ss (dJ ls ss);unfold jW;generalize oK ss (dJ ls ss)=q at *;refine⟨by rw[lm_];have:=d.firsts;omega,fun k e=>?_⟩;obtain⟨o,f,rfl⟩:=List.mem_map.1 e;have a:0<q.firsts.length:=by
  have c:0<q.kinds.length:=by rw[d.kinds];omega
  have:=d.kind _ (List.getElem_mem c);omega
 refine⟨?_,by simp[qV],fun b=>?_⟩
 .show (dJ ls ss).getD o 0=-1\/_;have c:=d.set o f;have:(dJ ls ss).getD o 0=gX ls (ss[o]).places:=by unfold dJ;rw[gd_,gm_,gg_ c];rfl
  show (dJ ls ss).getD o 0=-1\/(0<=(dJ ls ss).getD o 0/\(dJ ls ss).getD o 0<ls.length);rw[this];exact Li ls _
 .rw [lm_];have g:∀n,q.kinds.getD n 0<q.firsts.length:=fun n=>by
   rw[gd_];by_cases c:n<q.kinds.length
   .rw [gg_ c];exact d.kind _ (List.getElem_mem c)
   .rw [gn_ o_];exact a
  unfold qV;rw[gd_,gm_];by_cases c:b<256
  .rw [List.getElem?_range c];exact g _
  .rw [gn_ (by simp;omega)];exact a
end Pu
namespace Pu
section
variable {ss:List aN} {rs:List Int}
def MU(ss:List aN)(rs:List Int)(kinds:List Nat)(s t:Nat):Prop:=rs.getD s 0=rs.getD t 0/\∀c,c<256->kinds.getD (qW ss s c) 0=kinds.getD (qW ss t c) 0
theorem MU.refl(kinds:List Nat)(s:Nat):MU ss rs kinds s s:=⟨rfl,fun _ _=>rfl⟩
theorem MU.symm{kinds:List Nat}{s t:Nat}(h:MU ss rs kinds s t):MU ss rs kinds t s:=⟨h.1.symm,fun c a=>(h.2 c a).symm⟩
theorem MU.trans{kinds:List Nat}{s t u:Nat}(h:MU ss rs kinds s t)(a:MU ss rs kinds t u):MU ss rs kinds s u:=⟨h.1.trans a.1,fun c b=>(h.2 c b).trans (a.2 c b)⟩
theorem UW(kinds:List Nat)(s t:Nat):(rs.getD s 0=rs.getD t 0/\pI ss kinds s t 256=true)↔MU ss rs kinds s t:=by unfold MU pI;simp
theorem Sj(kinds:List Nat)(s:Nat):∀l:List Nat,(iL ss rs kinds s l=l.length/\∀o∈l,¬MU ss rs kinds s o)\/(∃o,l[iL ss rs kinds s l]?=some o/\MU ss rs kinds s o):=by
 intro l;induction l with
 | nil=>exact .inl ⟨rfl,fun o d=>by simp at d⟩
 | cons o l g=>
  unfold iL;by_cases c:rs.getD s 0=rs.getD o 0/\pI ss kinds s o 256=true
  .rw [if_pos c];exact .inr ⟨o,rfl,(UW ..).1 c⟩
  .rw [if_neg c];rcases g with ⟨a,b⟩ | ⟨f,a,b⟩
   .refine .inl ⟨by rw[a,lc_],fun f d=>?_⟩;rcases mm_.1 d with e | h
    .rw [e];exact fun h=>c ((UW ..).2 h)
    .exact b f h
   .exact .inr ⟨f,by rw[cs_];exact a,b⟩
structure Fnr(ss:List aN)(rs:List Int)(kinds:List Nat)(n:Nat)(q:iw):Prop where
 len:q.kinds.length=n
 own:∀s,s<n->∃o,q.firsts[q.kinds.getD s 0]?=some o/\MU ss rs kinds s o
 two:∀i j oi oj:Nat,q.firsts[i]?=some oi->q.firsts[j]?=some oj->MU ss rs kinds oi oj->i=j
 self:∀i o:Nat,q.firsts[i]?=some o->o<n/\q.kinds.getD o 0=i
theorem Az{α:Type}(l:List α)(x d:α)(h:i<l.length):(l++[x]).getD i d=l.getD i d:=by rw[gd_,gd_,al_ h]
theorem Ay{α:Type}(l:List α)(x d:α):(l++[x]).getD l.length d=x:=by rw[gd_,ar_ dF];simp
theorem yS(kinds:List Nat):∀n,Fnr ss rs kinds n (fZ ss rs kinds n):=by
 intro n;induction n with
 | zero=>exact⟨rfl,fun s h=>o_,fun i j p r h=>by simp[fZ]at h,fun i o h=>by simp[fZ]at h⟩
 | succ n f=>
  rw[tC];unfold FQ;generalize fZ ss rs kinds n=q at *;have x:(q.kinds++[iL ss rs kinds n q.firsts]).length=n+1:=by rw[la_,f.len];rfl
  have k:∀s,s<n->(q.kinds++[iL ss rs kinds n q.firsts]).getD s 0=q.kinds.getD s 0:=fun s w=>Az _ _ _ (by rw[f.len];exact w);have u:(q.kinds++[iL ss rs kinds n q.firsts]).getD n 0=iL ss rs kinds n q.firsts:=by have:=Ay q.kinds (iL ss rs kinds n q.firsts) 0;rwa[f.len]at this
  rcases Sj (ss:=ss) (rs:=rs) kinds n q.firsts with ⟨g,l⟩ | ⟨o,g,l⟩
  .rw [if_pos g];have d:∀(i o:Nat),(q.firsts++[n])[i]?=some o->(i<q.firsts.length/\q.firsts[i]?=some o)\/(i=q.firsts.length/\o=n):=fun i o h=>by
    by_cases c:i<q.firsts.length
    .rw [al_ c]at h;exact .inl ⟨c,h⟩
    .rw [ar_ o_]at h;have e:i-q.firsts.length=0:=by have:=(ge_.1 h).1;simpa using this
     rw[e]at h;have:n=o:=by simpa using h
     exact .inr ⟨o_,this.symm⟩
   refine⟨x,fun s w=>?_,fun i j p r e y v=>?_,fun i o e=>?_⟩
   .show ∃o,(q.firsts++[n])[_]?=some o/\_;by_cases c:s<n
    .obtain⟨o,a,b⟩:=f.own s c;rw[k s c];refine⟨o,?_,b⟩;rw[al_ (ge_.1 a).1];exact a
    .have:s=n:=o_;subst this;rw[u,g];exact⟨s,i_,MU.refl ..⟩
   .rcases d i p e with ⟨_,a⟩ | ⟨c,a⟩ <;> rcases d j r y with ⟨_,b⟩ | ⟨z,b⟩
    .exact f.two i j p r a b v
    .subst b;exact absurd v.symm (l p (mg_ a))
    .subst a;exact absurd v (l r (mg_ b))
    .omega
   .rcases d i o e with ⟨_,a⟩ | ⟨c,a⟩
    .have:=f.self i o a;exact⟨o_,by rw[k o this.1];exact this.2⟩
    .subst a;exact⟨o_,by rw[u,g,c]⟩
  .have b:=(ge_.1 g).1;rw[if_neg o_];refine⟨x,fun s w=>?_,f.two,fun i a e=>?_⟩
   .by_cases c:s<n
    .rw [k s c];exact f.own s c
    .have:s=n:=o_;subst this;rw[u];exact⟨o,g,l⟩
   .have:=f.self i a e;exact⟨o_,by rw[k a this.1];exact this.2⟩
theorem Fnr.iff{q:iw}(h:Fnr ss rs kinds n q)(g:s<n)(j:t<n):q.kinds.getD s 0=q.kinds.getD t 0↔MU ss rs kinds s t:=by
 obtain⟨o,a,b⟩:=h.own s g;obtain⟨f,c,d⟩:=h.own t j;constructor
 .intro e;rw[e,c]at a;have:f=o:=oi_ a;subst this;exact b.trans d.symm
 .intro e;exact h.two _ _ o f a c (b.symm.trans (e.trans d))
def Ac(ss:List aN):Nat->List Nat->Nat
 | s,[]=>s
 | s,c::w=>Ac ss (qW ss s c) w
def Eqv(ss:List aN)(rs:List Int)(s t:Nat):Prop:=∀w:List Nat,(∀c∈w,c<256)->rs.getD (Ac ss s w) 0=rs.getD (Ac ss t w) 0
def Km(ss:List aN)(rs:List Int)(q:List Nat):Prop:=∀s t,s<ss.length->t<ss.length->Eqv ss rs s t->q.getD s 0=q.getD t 0
theorem Eqv.lead{c:Nat}(h:Eqv ss rs s t)(a:c<256):Eqv ss rs (qW ss s c) (qW ss t c):=fun w b=>h (c::w) (fun x d=>by
 rcases mm_.1 d with e | e
 .rw [e];exact a
 .exact b x e)
theorem rR(a:∀z∈ss,∀n∈z.longer,n<ss.length)(b:s<ss.length)(c:Nat):qW ss s c<ss.length:=by
 unfold qW;rw[gg_ b];show (ss[s]).longer.getD c 0<_;rw[gd_];cases h:(ss[s]).longer[c]? with
 | none=>exact Nat.lt_of_le_of_lt (zl_ _) b
 | some n=>exact a _ (List.getElem_mem b) n (mg_ h)
theorem wK(a:∀z∈ss,∀n∈z.longer,n<ss.length)(h:Km ss rs kinds):Km ss rs (fZ ss rs kinds ss.length).kinds:=fun s t d f e=>
 ((yS kinds ss.length).iff d f).2 ⟨e [] (fun c b=>by simp at b),fun c b=>h _ _ (rR a d c) (rR a f c) (e.lead b)⟩
def Ref(n:Nat)(k a:List Nat):Prop:=∀s t,s<n->t<n->a.getD s 0=a.getD t 0->k.getD s 0=k.getD t 0
theorem Tu(n:Nat)(l:List Nat)(a:l.Nodup)(b:∀v∈l,v<n)(f:n<=l.length)(v:Nat)(d:v<n):v∈l:=by
 apply Classical.byContradiction;intro h;have:=qY n (v::l) (List.nodup_cons.2 ⟨h,a⟩) (fun u c=>by
  rcases mm_.1 c with e | e
  .rw [e];exact d
  .exact b u e)
 rw[lc_]at this;omega
theorem wS{l:List Nat}(h:∀i j x:Nat,l[i]?=some x->l[j]?=some x->i=j):l.Nodup:=by rw[List.nodup_iff_pairwise_ne,List.pairwise_iff_getElem];intro i j a c b e;have:=h i j l[i] (gg_ a) (by rw[e];exact gg_ c);omega
theorem TY{A B:List Nat}{c a:iw}(k:Fnr ss rs A n c)(w:Fnr ss rs B n a)(y:Ref n c.kinds a.kinds)(z:a.firsts.length<=c.firsts.length):Ref n a.kinds c.kinds:=by
 have p:(c.firsts.map (fun o=>a.kinds.getD o 0)).Nodup:=by
  refine wS (fun i j x b d=>?_);rw[gm_]at b d;cases gi:c.firsts[i]? with
  | none=>rw[gi]at b;cases b
  | some f=>
   cases gj:c.firsts[j]? with
   | none=>rw[gj]at d;cases d
   | some g=>rw[gi]at b;rw[gj]at d;have e:a.kinds.getD f 0=a.kinds.getD g 0:=(oi_ b).trans (oi_ d).symm;have h:=k.self i f gi;have l:=k.self j g gj;have:=y f g h.1 l.1 e;omega
 have l:∀v∈c.firsts.map (fun o=>a.kinds.getD o 0),v<a.firsts.length:=fun v d=>by obtain⟨o,r,rfl⟩:=List.mem_map.1 d;obtain⟨i,b⟩:=gf_ r;obtain⟨u,g,_⟩:=w.own o (k.self i o b).1;exact (ge_.1 g).1
 have h:=Tu a.firsts.length _ p l (by rw[lm_];exact z);have d:∀s,s<n->∃o,o<n/\c.firsts[c.kinds.getD s 0]?=some o/\a.kinds.getD o 0=a.kinds.getD s 0:=fun s j=>by obtain⟨u,g,_⟩:=w.own s j;obtain⟨o,r,e⟩:=List.mem_map.1 (h _ (ge_.1 g).1);obtain⟨i,b⟩:=gf_ r;have f:=k.self i o b;have:=y o s f.1 j e;exact⟨o,f.1,by rw[<-this,f.2];exact b,e⟩
 intro s t j v e;obtain⟨o,_,g,b⟩:=d s j;obtain⟨u,_,f,r⟩:=d t v;rw[e,f]at g;have:u=o:=oi_ g;subst this;exact b.symm.trans r
structure QZ(ss:List aN)(rs:List Int)(q:iw):Prop where
 fin:∃kinds,Fnr ss rs kinds ss.length q/\Ref ss.length q.kinds kinds
 coarse:Km ss rs q.kinds
theorem Om(kinds:List Nat)(h:0<ss.length):0<(fZ ss rs kinds ss.length).firsts.length:=by obtain⟨o,a,_⟩:=(yS (ss:=ss) (rs:=rs) kinds ss.length).own 0 h;have:=(ge_.1 a).1;omega
theorem Qt(d:∀z∈ss,∀n∈z.longer,n<ss.length):∀(f:Nat) (q:iw) (kinds:List Nat),Fnr ss rs kinds ss.length q->Ref ss.length kinds q.kinds->Km ss rs q.kinds->ss.length<f+q.firsts.length->QZ ss rs (oh ss rs f q):=by
 intro f;induction f with
 | zero=>
  intro q kinds g l h r;exfalso;have k:q.firsts.Nodup:=wS (fun i j x c e=>by
   have a:=(g.self i x c).2;have b:=(g.self j x e).2;omega)
  have:=qY ss.length q.firsts k (fun v a=>by
   obtain⟨i,c⟩:=gf_ a;exact (g.self i v c).1)
  omega
 | succ f v=>
  intro q kinds g l h r;unfold oh;have a:=yS (ss:=ss) (rs:=rs) q.kinds ss.length;have p:Ref ss.length q.kinds (fZ ss rs q.kinds ss.length).kinds:=fun s t b j e=>by have:=(a.iff b j).1 e;exact (g.iff b j).2 ⟨this.1,fun c u=>l _ _ (rR d b c) (rR d j c) (this.2 c u)⟩
  split
  .rename_i b;exact⟨⟨q.kinds,a,TY g a p b⟩,wK d h⟩
  .exact v _ q.kinds a p (wK d h) o_
theorem Ud(b:∀z∈ss,∀n∈z.longer,n<ss.length)(d:0<ss.length):QZ ss rs (oK ss rs):=by
 unfold oK oh;have e:=Om (ss:=ss) (rs:=rs) (List.replicate ss.length 0) d;have c:¬(fZ ss rs (List.replicate ss.length 0) ss.length).firsts.length<=0:=o_;show QZ ss rs (if (fZ ss rs (List.replicate ss.length 0) ss.length).firsts.length<=0 then fZ ss rs (List.replicate ss.length 0) ss.length else oh ss rs ss.length (fZ ss rs (List.replicate ss.length 0) ss.length));rw[if_neg c];have a:∀s,(List.replicate ss.length 0).getD s 0=0:=fun s=>by rw[gd_,List.getElem?_replicate];split <;> rfl
 refine Qt b _ _ (List.replicate ss.length 0) (yS _ _) (fun s t _ _ _=>by rw[a,a]) (wK b (fun s t _ _ _=>by show (List.replicate ss.length 0).getD s 0=(List.replicate ss.length 0).getD t 0;rw[a,a])) ?_;show ss.length<ss.length+(fZ ss rs (List.replicate ss.length 0) ss.length).firsts.length;omega
theorem QZ.Wj{q:iw}(h:QZ ss rs q)(a:∀z∈ss,∀n∈z.longer,n<ss.length)(b:s<ss.length)(d:t<ss.length)(e:q.kinds.getD s 0=q.kinds.getD t 0):MU ss rs q.kinds s t:=by obtain⟨kinds,g,j⟩:=h.fin;have:=(g.iff b d).1 e;exact⟨this.1,fun c f=>j _ _ (rR a b c) (rR a d c) (this.2 c f)⟩
theorem QZ.eqv{q:iw}(h:QZ ss rs q)(a:∀z∈ss,∀n∈z.longer,n<ss.length)(b:s<ss.length)(d:t<ss.length):q.kinds.getD s 0=q.kinds.getD t 0↔Eqv ss rs s t:=by
 constructor
 .intro e w;induction w generalizing s t with
  | nil=>intro _;exact (h.Wj a b d e).1
  | cons c w j=>intro f;exact j (rR a b c) (rR a d c) ((h.Wj a b d e).2 c (f c (ms_ ..))) (fun x g=>f x (mc_ _ g))
 .exact h.coarse s t b d
end
end Pu
namespace Pu
def Cx(ps:List aJ)(bg:List Nat)(ss:List aN)(i:Nat):List Nat:=if i=1 then bg else jq ps (qM ss i)
structure Wk(ps:List aJ)(bg:List Nat)(k b:Nat)(ss:List aN):Prop where
 two:2<=ss.length
 z0:ss[0]?=some ⟨[],kL⟩
 p1:qM ss 1=[]
 all:∀(i:Nat) (s:aN),ss[i]?=some s->s.longer.length=256/\∀n∈s.longer,n<ss.length
 led:∀i c,1<=i->i<ss.length->c<256->(i<k\/(i=k/\c<b))->qM ss (qW ss i c)=taking ps (Cx ps bg ss i) c/\qW ss i c≠1
 zero:∀i c,(k<i\/(i=k/\b<=c))->qW ss i c=0
 fr:∀i,2<=i->i<ss.length->∃j c,1<=j/\j<i/\c<256/\qW ss j c=i
 dis:∀i j,i<j->j<ss.length->2<=j->qM ss i≠qM ss j
theorem Xj(t:List Nat):∀ss:List aN,iV t ss<ss.length->∃s,ss[iV t ss]?=some s/\s.places=t:=by
 intro ss;induction ss with
 | nil=>intro h;simp at h
 | cons s r c=>
  intro h;unfold iV at h |-;split
  .rename_i e;exact⟨s,rfl,e⟩
  .rename_i e;rw[if_neg e,lc_]at h;obtain⟨d,a,b⟩:=c o_;exact⟨d,by rw[cs_];exact a,b⟩
theorem Xk(t:List Nat):∀ss:List aN,¬iV t ss<ss.length->∀i,i<ss.length->qM ss i≠t:=by
 intro ss;induction ss with
 | nil=>intro _ i a;simp at a
 | cons s r b=>
  intro h i a;unfold iV at h;by_cases e:s.places=t
  .rw [if_pos e]at h;simp at h
  .rw [if_neg e]at h;cases i with
   | zero=>exact e
   | succ i=>have:=b (by rw[lc_]at h;omega) i (by rw[lc_]at a;omega);exact this
theorem Xl(t:List Nat){ss:List aN}(f:qM ss 0=[])(g:qM ss 1=[])(h:2<=ss.length):iV t ss≠1:=by
 match ss,h with
 | a::b::r,_=>
  have c:a.places=[]:=f;have d:b.places=[]:=g;unfold iV;split
  .omega
  .rename_i e;unfold iV;rw[if_neg (by rw[d];rw[c]at e;exact e)];omega
section
variable {ps:List aJ} {bg:List Nat}
theorem AR(ss:List aN)(t:List Nat)(h:i<ss.length):(iB ss t)[i]?=ss[i]?:=by
 unfold iB;split
 .rfl
 .rw [al_ h]
theorem AO(ss:List aN)(f b n i:Nat):(jG ss f b n)[i]?=(ss[i]?).map (fun s=>if f=i then { s with longer:=s.longer.set b n } else s):=by unfold jG;rw[List.getElem?_modify];by_cases h:f=i <;> simp[h]
theorem vO(ss:List aN)(f b n:Nat):(jG ss f b n).length=ss.length:=by simp[jG]
theorem AY(ss:List aN)(f b n i:Nat):qM (jG ss f b n) i=qM ss i:=by
 unfold qM;rw[AO];cases ss[i]? with
 | none=>rfl
 | some s=>simp only[Option.map_some];split <;> rfl
theorem abL(ss:List aN)(f b n i c:Nat)(k:∀s,ss[f]?=some s->s.longer.length=256)(g:b<256)(j:f<ss.length):qW (jG ss f b n) i c=if i=f/\c=b then n else qW ss i c:=by
 unfold qW;rw[AO];by_cases e:f=i
 .subst e;obtain⟨s,a⟩:=rG ss f j;rw[a];simp only[Option.map_some,if_pos];rw[gd_,List.getElem?_set,gd_];by_cases d:b=c
  .subst d;simp[k s a,g]
  .rw [if_neg d,if_neg (fun h=>d h.2.symm)]
 .rw [if_neg (fun h=>e h.1.symm)];cases ss[i]? with
  | none=>rfl
  | some s=>simp[e]
theorem VC(ss:List aN)(t:List Nat)(h:i<ss.length):qM (iB ss t) i=qM ss i:=by unfold qM;rw[AR ss t h]
theorem aeN(ss:List aN)(t:List Nat)(i c:Nat):qW (iB ss t) i c=qW ss i c:=by
 unfold iB;split
 .rfl
 .unfold qW;by_cases h:i<ss.length
  .rw [al_ h]
  .rw [gn_ (l:=ss) o_,ar_ o_];by_cases e:i-ss.length=0
   .rw [e];show kL.getD c 0=0;unfold kL;rw[gd_,List.getElem?_replicate];split <;> rfl
   .rw [gn_ (by simp;omega)]
theorem ab8(ss:List aN)(t:List Nat):iV t ss<(iB ss t).length/\qM (iB ss t) (iV t ss)=t:=by
 unfold iB;by_cases h:iV t ss<ss.length
 .rw [if_pos h];obtain⟨s,a,b⟩:=Xj t ss h;refine⟨h,?_⟩;unfold qM;rw[a];exact b
 .rw [if_neg h];have e:iV t ss=ss.length:=by have:=OJ t ss;omega
  rw[e];refine⟨i_,?_⟩;unfold qM;rw[ar_ dF];simp
theorem PN(ss:List aN)(t:List Nat):(iB ss t).length=ss.length\/((iB ss t).length=ss.length+1/\iV t ss=ss.length):=by
 unfold iB;split
 .exact .inl rfl
 .have:=OJ t ss;exact .inr ⟨i_,o_⟩
theorem Wk.step{k b:Nat}{ss:List aN}(h:Wk ps bg k b ss)(O:k<ss.length)(B:1<=k)(G:b<256):Wk ps bg k (b+1) (oN ps (Cx ps bg ss k) k ss b):=by
 unfold oN;generalize Q:taking ps (Cx ps bg ss k) b=t;have F:=ab8 ss t;have S:=PN ss t;have R:qM ss 0=[]:=by unfold qM;rw[h.z0]
 have n1:=Xl t R h.p1 h.two;have x:ss.length<=(iB ss t).length:=o_;have v:∀s,(iB ss t)[k]?=some s->s.longer.length=256:=fun s f=>by rw[AR ss t O]at f;exact (h.all k s f).1
 have u:∀i c,qW (jG (iB ss t) k b (iV t ss)) i c=if i=k/\c=b then iV t ss else qW ss i c:=fun i c=>by rw[abL _ _ _ _ _ _ v G o_,aeN]
 have r:∀i,i<ss.length->qM (jG (iB ss t) k b (iV t ss)) i=qM ss i:=fun i d=>by rw[AY,VC ss t d]
 have lt:∀i c,i<ss.length->qW ss i c<ss.length:=fun i c d=>rR (fun z l n e=>by
  obtain⟨j,A⟩:=gf_ l;exact (h.all j z A).2 n e) d c
 have z:∀i,i<ss.length->Cx ps bg (jG (iB ss t) k b (iV t ss)) i=Cx ps bg ss i:=fun i d=>by unfold Cx;rw[r i d]
 refine⟨by rw[vO];have:=h.two;omega,?_,by rw[r 1 (by have:=h.two;omega)];exact h.p1,fun i s f=>?_,fun i c H d N e=>?_,fun i c e=>?_,fun i w d=>?_,fun i j y A w=>?_⟩
 .rw [AO,AR ss t o_,h.z0];simp only[Option.map_some];rw[if_neg o_]
 .rw [AO]at f;rw[vO];cases hx:(iB ss t)[i]? with
  | none=>rw[hx]at f;cases f
  | some p=>
   rw[hx]at f;have l:p.longer.length=256/\∀n∈p.longer,n<(iB ss t).length:=by
    by_cases d:i<ss.length
    .rw [AR ss t d]at hx;have:=h.all i p hx;exact⟨this.1,fun n a=>Nat.lt_of_lt_of_le (this.2 n a) x⟩
    .have I:=(ge_.1 hx).1;have:p=⟨t,kL⟩:=by
      unfold iB at hx;split at hx
      .rw [gn_ o_]at hx;cases hx
      .rename_i J;have e:i=ss.length:=o_;subst e;rw[ar_ dF]at hx;simpa using hx.symm
     subst this;refine⟨lp_,fun n a=>?_⟩;have:n=0:=by have a:n∈kL:=a;unfold kL at a;exact List.eq_of_mem_replicate a
     omega
   have f:(if k=i then { p with longer:=p.longer.set b (iV t ss) } else p)=s:=by simpa using f
   subst f;split
   .refine⟨by simp[l.1],fun n a=>?_⟩;rcases List.mem_or_eq_of_mem_set a with g | g
    .exact l.2 n g
    .rw [g];exact F.1
   .exact l
 .rw [vO]at d;have I:i<=k:=o_;rw[u];rw[z i o_];by_cases e:i=k/\c=b
  .rw [if_pos e,AY];obtain⟨l,p⟩:=e;subst l p;exact⟨by rw[Q];exact F.2,n1⟩
  .rw [if_neg e];have:=h.led i c H o_ N o_;rw[r _ (lt i c o_)];exact this
 .rw [u,if_neg o_];exact h.zero i c o_
 .rw [vO]at d;by_cases c:i<ss.length
  .obtain⟨j,l,p,I,J,L⟩:=h.fr i w c;refine⟨j,l,p,I,J,?_⟩;rw[u,if_neg (fun e=>?_)]
   .exact L
   .have:=h.zero j l (.inr ⟨e.1,o_⟩);omega
  .refine⟨k,b,B,o_,G,?_⟩;rw[u,if_pos ⟨rfl,rfl⟩];omega
 .rw [vO]at A;by_cases c:j<ss.length
  .rw [r i o_,r j c];exact h.dis i j y c w
  .have e:¬iV t ss<ss.length:=o_;have l:j=iV t ss:=o_;rw[r i o_,l,AY,F.2];exact Xk t ss e i o_
theorem XD(ps:List aJ)(a:List Nat)(k:Nat)(ss:List aN)(b:Nat):ss.length<=(oN ps a k ss b).length:=by unfold oN;rw[vO];have:=PN ss (taking ps a b);omega
theorem abJ(ps:List aJ)(a:List Nat)(k:Nat)(ss:List aN)(b i:Nat)(c:i<ss.length):qM (oN ps a k ss b) i=qM ss i:=by unfold oN;rw[Pu.AY,VC ss _ c]
theorem Wk.lead{k:Nat}{ss:List aN}(h:Wk ps bg k 0 ss)(j:k<ss.length)(d:1<=k):∀b,b<=256->Wk ps bg k b (nJ ps (Cx ps bg ss k) k ss b)/\k<(nJ ps (Cx ps bg ss k) k ss b).length/\qM (nJ ps (Cx ps bg ss k) k ss b) k=qM ss k:=by
 intro b;induction b with
 | zero=>intro _;exact⟨h,j,rfl⟩
 | succ b l=>
  intro p;obtain⟨g,a,c⟩:=l o_;have e:nJ ps (Cx ps bg ss k) k ss (b+1)=oN ps (Cx ps bg ss k) k (nJ ps (Cx ps bg ss k) k ss b) b:=by unfold nJ;rw[List.range_succ,List.foldl_append];rfl
  have f:Cx ps bg (nJ ps (Cx ps bg ss k) k ss b) k=Cx ps bg ss k:=by unfold Cx at c |-;rw[c]
  rw[e];have st:=g.step a d o_;rw[f]at st;exact⟨st,Nat.lt_of_lt_of_le a (XD ..),(abJ _ _ _ _ _ _ a).trans c⟩
theorem Wk.next{k:Nat}{ss:List aN}(h:Wk ps bg k 256 ss):Wk ps bg (k+1) 0 ss:=
 ⟨h.two,h.z0,h.p1,h.all,fun i c b e d a=>h.led i c b e d o_,fun i c a=>h.zero i c o_,h.fr,h.dis⟩
theorem ad7:∀(f k:Nat) (ss:List aN),2<=k->45<=f+k->Wk ps bg k 0 ss->∃b,Wk ps bg b 0 (qy ps f k ss)/\((qy ps f k ss).length<=42->(qy ps f k ss).length<=b):=by
 intro f;induction f with
 | zero=>intro k ss _ e h;exact⟨k,h,fun a=>by unfold qy at a |-;omega⟩
 | succ f g=>
  intro k ss j e h;unfold qy;by_cases c:k<ss.length/\ss.length<=42
  .rw [if_pos c];have a:=(h.lead c.1 o_ 256 dF).1.next;have d:Cx ps bg ss k=jq ps (qM ss k):=by unfold Cx;rw[if_neg o_]
   rw[d]at a;exact g (k+1) _ o_ o_ a
  .rw [if_neg c];exact⟨k,h,fun a=>o_⟩
theorem ahJ:Wk ps bg 1 0 Qw:=by
 have z:∀c,kL.getD c 0=0:=fun c=>by unfold kL;rw[gd_,List.getElem?_replicate];split <;> rfl
 have h:∀i c,qW Qw i c=0:=fun i c=>by
  unfold qW Qw
  match i with
  | 0=>exact z c
  | 1=>exact z c
  | i+2=>rfl
 refine⟨dF,rfl,rfl,fun i s a=>?_,fun i c k b l e=>?_,fun i c _=>h i c,fun i d b=>?_,fun i j _ f d=>?_⟩
 .have:s=⟨[],kL⟩:=by
   unfold Qw at a
   match i,a with
   | 0,a=>simpa using a.symm
   | 1,a=>simpa using a.symm
   | i+2,a=>simp at a
  subst this;refine⟨lp_,fun n g=>?_⟩;have:n∈List.replicate 256 0:=g;rw[List.eq_of_mem_replicate this];decide
 .omega
 .have:i<2:=b;omega
 .have:j<2:=f;omega
end
def ZT(ps:List aJ)(bg:List Nat)(ss:List aN):Prop:=Wk ps bg ss.length 0 ss
theorem aaO(ls:List aD)(ps:List aJ)(mode:Int)(h:(qz ls ps mode).length<=42):ZT ps (jQ ls mode) (qz ls ps mode):=by
 have b:=((ahJ (ps:=ps) (bg:=jQ ls mode)).lead d_ dF 256 dF).1.next;have e:Cx ps (jQ ls mode) Qw 1=jQ ls mode:=by unfold Cx;rw[if_pos rfl]
 rw[e]at b;obtain⟨k,a,d⟩:=ad7 43 2 _ dF dF b;unfold qz at h |-
 have d:=d h;refine⟨a.two,a.z0,a.p1,a.all,fun i c f j g _=>a.led i c f j g o_,fun i c l=>?_,a.fr,a.dis⟩;unfold qW;rw[gn_ o_]
theorem ZT.lt{ps:List aJ}{bg:List Nat}{ss:List aN}(h:ZT ps bg ss):∀z∈ss,∀n∈z.longer,n<ss.length:=fun z c n b=>by obtain⟨j,a⟩:=gf_ c;exact (h.all j z a).2 n b
theorem ZT.go{q:List aD × List aJ}{mode:Int}{ss:List aN}(h:ZT q.2 (jQ q.1 mode) ss):∀(w:List Nat),(∀c∈w,c<256)->Ac ss 1 w<ss.length/\qM ss (Ac ss 1 w)=Be q mode w:=by
 have k:∀(w:List Nat) (i:Nat),i<ss.length->i≠1->(∀c∈w,c<256)->Ac ss i w<ss.length/\qM ss (Ac ss i w)=goW q.2 (qM ss i) w:=by
  intro w;induction w with
  | nil=>intro i b _ _;exact⟨b,rfl⟩
  | cons c w l=>
   intro i b d f;have p:=f c (ms_ ..);have g:∀c∈w,c<256:=fun x e=>f x (mc_ _ e);have j:=rR h.lt b c;unfold Ac goW;by_cases e:i=0
   .subst e;have a:qM ss 0=[]:=by unfold qM;rw[h.z0]
    have r:qW ss 0 c=0:=by unfold qW;rw[h.z0];show kL.getD c 0=0;unfold kL;rw[gd_,List.getElem?_replicate];split <;> rfl
    have:=l 0 b o_ g;rw[r,a];rw[a]at this;exact this
   .have:=h.led i c o_ b p (.inl b);have a:=l (qW ss i c) j this.2 g;rw[this.1]at a;unfold Cx at a;rw[if_neg d]at a;exact a
 intro w f;cases w with
 | nil=>exact⟨by have:=h.two;show 1<_;omega,h.p1⟩
 | cons c w=>
  have d:1<ss.length:=by have:=h.two;omega
  have:=h.led 1 c dF d (f c (ms_ ..)) (.inl d);have a:=k w (qW ss 1 c) (rR h.lt d c) this.2 (fun x e=>f x (mc_ _ e));rw[this.1]at a;unfold Cx at a;rw[if_pos rfl]at a;exact a
theorem ZT.word{ps:List aJ}{bg:List Nat}{ss:List aN}(h:ZT ps bg ss):∀(n i:Nat),i<=n->1<=i->i<ss.length->∃w,(∀c∈w,c<256)/\Ac ss 1 w=i:=by
 have app:∀(w:List Nat) (i c:Nat),Ac ss i (w++[c])=qW ss (Ac ss i w) c:=by
  intro w;induction w with
  | nil=>intro i c;rfl
  | cons a w b=>intro i c;exact b _ _
 intro n;induction n with
 | zero=>intro i a d;omega
 | succ n b=>
  intro i a d u;by_cases e:i=1
  .exact⟨[],fun c f=>by simp at f,e.symm⟩
  .obtain⟨j,c,f,y,k,l⟩:=h.fr i o_ u;obtain⟨w,p,r⟩:=b j o_ f o_;refine⟨w++[c],fun x v=>?_,by rw[app,r,l]⟩;rcases ma_.1 v with g | g
   .exact p x g
   .rw [List.mem_singleton.1 g];exact k
end Pu
namespace Pu
def ZA(K:List aA)(k c:Nat):Nat:=match K[k]? with
 | some x=>x.longer.getD c 0
 | none=>0
def zz(K:List aA)(k:Nat):Int:=match K[k]? with
 | some x=>x.rule
 | none=>-1
def Ov(K:List aA):Nat->List Nat->Nat
 | k,[]=>k
 | k,c::w=>Ov K (ZA K k c) w
theorem aaZ(K:List aA):∀(w:List Nat) (k c:Nat),Ov K k (w++[c])=ZA K (Ov K k w) c:=by
 intro w;induction w with
 | nil=>intro k c;rfl
 | cons a w b=>intro k c;exact b _ _
theorem zK(ss:List aN):∀(w v:List Nat) (i:Nat),Ac ss i (w++v)=Ac ss (Ac ss i w) v:=by
 intro w;induction w with
 | nil=>intro v i;rfl
 | cons a w b=>intro v i;exact b _ _
def CS(w:List Nat):Prop:=∀c∈w,c<256
theorem CS.append{w v:List Nat}(h:CS w)(a:CS v):CS (w++v):=fun c b=>by
 rcases ma_.1 b with g | g
 .exact h c g
 .exact a c g
theorem OT(ss:List aN)(rs:List Int)(kinds:List Nat)(n s:Nat)(f:s<n):(fZ ss rs kinds n).kinds.getD s 0<=s:=by
 induction n with
 | zero=>omega
 | succ n d=>
  rw[tC];unfold FQ;have a:=vJ ss rs kinds n;have b:=Cg ss rs kinds n (fZ ss rs kinds n).firsts;by_cases c:s<n
  .rw [Az _ _ _ (by rw[a.1];exact c)];exact d c
  .have e:s=n:=o_;subst e;have:=Ay (fZ ss rs kinds s).kinds (iL ss rs kinds s (fZ ss rs kinds s).firsts) 0;rw[a.1]at this;rw[this];omega
theorem YW(ss:List aN)(rs:List Int):∀(f:Nat) (q:iw),(f=0->∀s,s<ss.length->q.kinds.getD s 0<=s)->∀s,s<ss.length->(oh ss rs f q).kinds.getD s 0<=s:=by
 intro f;induction f with
 | zero=>intro q h;exact h rfl
 | succ f b=>
  intro q _ s a;unfold oh;split
  .exact OT ss rs _ _ s a
  .exact b _ (fun _ s a=>OT ss rs _ _ s a) s a
def OnW(ls:List aC)(mode:Int)(w:List Nat):Prop:=∃v:List Nat,v≠[]/\CS v/\∃(i:Nat) (x:aC),ls[i]?=some x/\x.mode=mode/\M x.re (w++v)
structure xH(ls:List aC)(mode:Int)(K:List aA):Prop where
 ok:ER ls.length K
 lost:K.length<=1->∀w,CS w->w≠[]->∀(i:Nat) (x:aC),ls[i]?=some x->x.mode=mode->¬M x.re w
 lt:∀w,CS w->2<=K.length->Ov K 1 w<K.length
 none:2<=K.length->zz K 1=-1
 rule:∀w,CS w->2<=K.length->w≠[]->pJ ls mode w (zz K (Ov K 1 w))
 on:∀w,CS w->2<=K.length->((∃c,c<256/\ZA K (Ov K 1 w) c≠0)↔OnW ls mode w)
 zero:∀c,ZA K 0 c=0
 rule0:zz K 0=-1
section
variable {ls:List aC} {q:List aD × List aJ} {mode:Int} {ss:List aN}
theorem CE(lp:List aD)(a:s<ss.length):(dJ lp ss).getD s 0=gX lp (qM ss s):=by unfold dJ qM;rw[gd_,gm_,gg_ a];rfl
theorem uO(lp:List aD):gX lp []=-1:=by
 rcases wL [] lp 0 with ⟨h,_⟩ | ⟨i,x,_,_,a,_⟩
 .exact h
 .rw [Co]at a;cases a
theorem pJ.none{w:List Nat}{r:Int}(h:pJ ls mode w r)(d:r=-1)(i:Nat)(x:aC)(a:ls[i]?=some x)(b:x.mode=mode):¬M x.re w:=by
 rcases h with ⟨_,h⟩ | ⟨j,y,c,_⟩
 .exact h i x a b
 .omega
theorem pJ.some{w:List Nat}{r:Int}(h:pJ ls mode w r)(d:r≠-1):∃(i:Nat) (x:aC),ls[i]?=some x/\x.mode=mode/\M x.re w:=by
 rcases h with ⟨h,_⟩ | ⟨j,y,_,a,b,c,_⟩
 .exact absurd h d
 .exact⟨j,y,a,b,c⟩
theorem Sn(N:CU ls q)(h:ZT q.2 (jQ q.1 mode) ss)(X:ss.length<=42):xH ls mode (jW q.1 ss):=by
 have y:=abF q.1 ss (by have:=h.two;omega) X;rw[N.n]at y;have d:=Ud (rs:=dJ q.1 ss) h.lt (by have:=h.two;omega);have B:=Ke ss (dJ q.1 ss);have u:=YW ss (dJ q.1 ss) (ss.length+1) ⟨List.replicate ss.length 0,[]⟩ (fun e=>o_);unfold jW at y |-
 have u:∀s,s<ss.length->(oK ss (dJ q.1 ss)).kinds.getD s 0<=s:=u;generalize oK ss (dJ q.1 ss)=z at *;generalize U:z.firsts.map (qV (dJ q.1 ss) ss z)=K at *;have two:=h.two;have r:z.kinds.getD 0 0=0:=by have:=u 0 o_;omega
 have Y:qM ss 0=[]:=by unfold qM;rw[h.z0]
 have J:∀s,s<ss.length->z.kinds.getD s 0<K.length:=fun s j=>by rw[<-U,lm_];rw[gd_,gg_ (by rw[B.kinds];exact j)];exact B.kind _ (List.getElem_mem _)
 have first:∀s,s<ss.length->∃o,o<ss.length/\K[z.kinds.getD s 0]?=some (qV (dJ q.1 ss) ss z o)/\z.kinds.getD o 0=z.kinds.getD s 0:=fun s j=>by obtain⟨kinds,b,_⟩:=d.fin;obtain⟨o,p,_⟩:=b.own s j;have:=b.self _ o p;refine⟨o,this.1,?_,this.2⟩;rw[<-U,gm_,p];rfl
 have F:∀s,s<ss.length->zz K (z.kinds.getD s 0)=gX q.1 (qM ss s):=fun s j=>by
  obtain⟨o,p,g,k⟩:=first s j
  unfold zz;rw[g];show (dJ q.1 ss).getD o 0=_;rw[(d.Wj h.lt p j k).1,CE q.1 j]
 have A:∀s c,s<ss.length->c<256->ZA K (z.kinds.getD s 0) c=z.kinds.getD (qW ss s c) 0:=fun s c j f=>by
  obtain⟨o,p,g,k⟩:=first s j
  unfold ZA;rw[g];show ((List.range 256).map (fun b=>z.kinds.getD (qW ss o b) 0)).getD c 0=_;rw[gd_,gm_,List.getElem?_range f];exact (d.Wj h.lt p j k).2 c f
 have L:∀v,Ac ss 0 v=0:=fun v=>by
  induction v with
  | nil=>rfl
  | cons c v b=>
   unfold Ac;have g:qW ss 0 c=0:=by unfold qW;rw[h.z0];show kL.getD c 0=0;unfold kL;rw[gd_,List.getElem?_replicate];split <;> rfl
   rw[g];exact b
 have aY:(dJ q.1 ss).getD 0 0=-1:=by rw[CE q.1 o_,Y,uO]
 have H:∀w,CS w->Ac ss 1 w<ss.length/\qM ss (Ac ss 1 w)=Be q mode w:=h.go;have I:∀w,CS w->(z.kinds.getD (Ac ss 1 w) 0=0↔∀v,CS v->gX q.1 (Be q mode (w++v))=-1):=fun w a=>by
  have e:=d.eqv h.lt (s:=Ac ss 1 w) (t:=0) (H w a).1 o_;rw[r]at e;rw[e];have k:∀v,CS v->((dJ q.1 ss).getD (Ac ss (Ac ss 1 w) v) 0=(dJ q.1 ss).getD (Ac ss 0 v) 0↔gX q.1 (Be q mode (w++v))=-1):=fun v k=>by have g:=H (w++v) (a.append k);rw[L,aY,<-zK,CE q.1 g.1,g.2]
  exact⟨fun p v g=>(k v g).1 (p v g),fun p v g=>(k v g).2 (p v g)⟩
 have Q:z.kinds.getD 1 0=0->K.length<=1:=fun e=>by
  have x:∀s,s<ss.length->z.kinds.getD s 0=0:=fun s j=>by
   by_cases c:s=0
   .rw [c];exact r
   .obtain⟨w,a,g⟩:=h.word s s dF o_ j;rw[<-g];refine (I w a).2 (fun v k=>?_);have:=(I [] (fun c f=>by simp at f)).1 e (w++v) (CS.append a k);exact this
  rw[<-U,lm_];apply Classical.byContradiction;intro f;obtain⟨kinds,b,_⟩:=d.fin;have p:z.firsts[1]?=some (z.firsts[1]'o_):=gg_ o_;have:=b.self 1 _ p;have:=x _ this.1;omega
 have one:2<=K.length->z.kinds.getD 1 0=1:=fun l=>by
  have:=u 1 o_;have:z.kinds.getD 1 0≠0:=fun e=>by have:=Q e;omega
  omega
 have go:2<=K.length->∀w,CS w->Ov K 1 w=z.kinds.getD (Ac ss 1 w) 0:=fun l=>by
  have g:∀(w:List Nat) (s:Nat),s<ss.length->CS w->Ov K (z.kinds.getD s 0) w=z.kinds.getD (Ac ss s w) 0:=by
   intro w;induction w with
   | nil=>intro s _ _;rfl
   | cons c w b=>intro s j a;unfold Ov Ac;rw[A s c j (a c (ms_ ..))];exact b _ (rR h.lt j c) (fun x p=>a x (mc_ _ p))
  intro w a;have:=g w 1 o_ a;rw[one l]at this;exact this
 refine⟨y,fun l w a b i x Z hm=>?_,fun w a l=>?_,fun l=>?_,fun w a l b=>?_,fun w a l=>?_,fun c=>?_,?_⟩
 .have e:z.kinds.getD 1 0=0:=by have:=J 1 o_;omega
  have:=(I [] (fun c f=>by simp at f)).1 e w a;exact (qA N mode w b).none this i x Z hm
 .rw [go l w a];exact J _ (H w a).1
 .have:=F 1 o_;rw[one l,h.p1,uO]at this;exact this
 .rw [go l w a,F _ (H w a).1,(H w a).2];exact qA N mode w b
 .have W:=H w a;constructor
  .rintro ⟨c,f,O⟩;rw[go l w a,A _ c W.1 f]at O;have G:CS (w++[c]):=CS.append a (fun x p=>by rw[List.mem_singleton.1 p];exact f);have e:Ac ss 1 (w++[c])=qW ss (Ac ss 1 w) c:=by rw[zK];rfl
   rw[<-e]at O;have V:∃v,CS v/\gX q.1 (Be q mode (w++[c]++v))≠-1:=by apply Classical.byContradiction;intro g;refine O ((I _ G).2 (fun v k=>?_));apply Classical.byContradiction;intro b;exact g ⟨v,k,b⟩
   obtain⟨v,k,b⟩:=V;obtain⟨i,x,R,S,T⟩:=(qA N mode (w++[c]++v) i_).some b;refine⟨c::v,i_,fun x p=>?_,i,x,R,S,by simpa using T⟩;rcases mm_.1 p with g | g
   .rw [g];exact f
   .exact k x g
  .rintro ⟨v,b,k,i,x,R,S,T⟩;cases v with
   | nil=>exact absurd rfl b
   | cons c v=>
    have f:=k c (ms_ ..);have g:CS v:=fun x p=>k x (mc_ _ p);refine⟨c,f,?_⟩;rw[go l w a,A _ c W.1 f];have G:CS (w++[c]):=CS.append a (fun x p=>by rw[List.mem_singleton.1 p];exact f);have e:Ac ss 1 (w++[c])=qW ss (Ac ss 1 w) c:=by rw[zK];rfl
    rw[<-e];intro O;have:=(I _ G).1 O v g;have p:=qA N mode (w++[c]++v) i_;exact p.none this i x R S (by simpa using T)
 .by_cases f:c<256
  .have:=A 0 c o_ f;rw[r]at this;have g:qW ss 0 c=0:=L [c];rw[this,g,r]
  .unfold ZA;cases l:K[0]? with
   | none=>rfl
   | some k=>have X:=(y.2 k (mg_ l)).2.1;show k.longer.getD c 0=0;rw[gd_,gn_ o_];rfl
 .have:=F 0 o_;rw[r,Y,uO]at this;exact this
end
end Pu
namespace Pu
def RK(K:List aA)(w:List Nat):Int:=if K.length<=1 then -1 else zz K (Ov K 1 w)
def OnK(K:List aA)(w:List Nat):Prop:=¬K.length<=1/\∃c,c<256/\ZA K (Ov K 1 w) c≠0
def wd(s:Y_)(p n:Nat):List Nat:=(List.range n).map (fun i=>(bt s (p+i)).toNat)
theorem afj(s:Y_)(p n:Nat):wd s p (n+1)=wd s p n++[(bt s (p+n)).toNat]:=by unfold wd;rw[List.range_succ,List.map_append];rfl
theorem ahI(s:Y_)(p n:Nat):(wd s p n).length=n:=by simp[wd]
theorem acW(s:Y_)(p n:Nat):CS (wd s p n):=fun c a=>by obtain⟨i,_,rfl⟩:=List.mem_map.1 a;have:=iM s (p+i);omega
def mk(K:List aA)(s:Y_)(p:Nat):Nat->Int × Int
 | 0=>(0,0)
 | n+1=>if 0<n/\RK K (wd s p n)≠-1 then (RK K (wd s p n),(n:Int)) else mk K s p n
theorem Vw(K:List aA)(s:Y_)(p n:Nat):mk K s p (n+1)=if 0<n/\RK K (wd s p n)≠-1 then (RK K (wd s p n),(n:Int)) else mk K s p n:=rfl
def Sk(a:bI)(C:bJ)(b:List aA)(n:Nat)(m:Int × Int)(steps ins c:Int):bJ:={ C with steps:=steps,ins:=ins,c:=c,looked:=(n:Int),rule:=m.1,marked:=m.2 }
def AtK(E:bI)(C:bJ)(K:List aA)(st:List Nat)(n:Nat)(D:bJ):Prop:=∃(a c:Int) (i:Nat),D=Sk E C K n (mk K E.s C.pos.toNat n) a (i:Int) c/\
 ((∃k,¬K.length<=1/\K[Ov K 1 (wd E.s C.pos.toNat n)]?=some k/\Ov K 1 (wd E.s C.pos.toNat n)≠0/\Blo E.p.code st i k)\/
  ((K.length<=1\/Ov K 1 (wd E.s C.pos.toNat n)=0)/\E.p.code[i]?=some ⟨5,0,0,0⟩))
structure Ah(E:bI)(C:bJ):Prop where
 err:C.err=0
 pos:0<=C.pos/\C.pos<E.s.size
 looked:C.looked=0
 rule:C.rule=0
 marked:C.marked=0
structure KOK(K:List aA):Prop where
 len:∀k∈K,k.longer.length=256/\∀b,k.longer.getD b 0<K.length
 zero:∀c,ZA K 0 c=0
 none:2<=K.length->zz K 1=-1/\zz K 0=-1
theorem U5{l:List ed}{x:ed}(h:l[i]?=some x):aO l i=x:=by unfold aO;rw[gd_,h];rfl
section
variable {E:bI} {C:bJ} {K:List aA} {st:List Nat}
theorem ajT{r:Int}(a:D.ins=(i:Int))(b:E.p.code[i]?=some ⟨1,r,0,0⟩):look E D=.go (if 0<D.looked then { D with steps:=D.steps+1,ins:=D.ins+1,rule:=r,marked:=D.looked } else { D with steps:=D.steps+1,ins:=D.ins+1 }):=by unfold look;rw[a,tn_,U5 b];simp only[if_pos]
theorem afT(a:D.ins=(i:Int))(b:E.p.code[i]?=some ⟨5,0,0,0⟩):look E D=.stop { D with steps:=D.steps+1,ins:=D.ins+1 } 0:=by unfold look;rw[a,tn_,U5 b];rfl
theorem afS(a:D.ins=(i:Int))(b:E.p.code[i]?=some ⟨2,0,0,0⟩):look E D=if (E.s.size:Int)<=D.pos+D.looked then (if E.ended then .stop { D with steps:=D.steps+1,ins:=D.ins+1 } 0 else .wait)
  else if E.most<=D.looked then .stop { D with steps:=D.steps+1,ins:=D.ins+1 } 5
  else .go { D with steps:=D.steps+1,ins:=D.ins+1,c:=bt E.s (D.pos+D.looked).toNat,looked:=D.looked+1 }:=by
 unfold look;rw[a,tn_,U5 b];rfl
theorem abQ{a b t:Int}(c:D.ins=(i:Int))(d:E.p.code[i]?=some ⟨3,a,b,t⟩):look E D=.go (if a<=D.c/\D.c<=b then { D with steps:=D.steps+1,ins:=t } else { D with steps:=D.steps+1,ins:=D.ins+1 }):=by unfold look;rw[c,tn_,U5 d];rfl
theorem Gs{F:bJ}(a:D.err=0)(b:D.pos<E.s.size)(h:look E D=.go F):zQ E D=some F:=by unfold zQ;rw[if_neg o_,h]
theorem abW{F:bJ}{e:Int}(a:D.err=0)(b:D.pos<E.s.size)(h:look E D=.stop F e):zQ E D=some (take E F e):=by unfold zQ;rw[if_neg o_,h]
theorem abY(h:look E D=.wait):zQ E D=none:=by unfold zQ;rw[h];split <;> rfl
theorem aeo(hF:Ah E C){l:List Nat}(c:Nat){m:Int × Int}:∀(g:List ed) (i:Nat) (steps:Int),(∀x∈g,Way l x)->(∀(j:Nat) (x:ed),g[j]?=some x->E.p.code[i+j]?=some (lY st x))->
  (∃x∈g,x.a<=(c:Int)/\(c:Int)<=x.b)->∃z,qJ E (Sk E C K n m steps (i:Int) (c:Int)) (Sk E C K n m z ((st.getD (l.getD c 0) 0:Nat):Int) (c:Int)):=by
 intro g;induction g with
 | nil=>intro i steps _ _ h;obtain⟨x,f,_⟩:=h;simp at f
 | cons x g I=>
  intro i steps w v p;obtain⟨a,b,L,N,rfl,O,A⟩:=w x (ms_ ..);have f:=v 0 _ rfl;rw[Nat.add_zero]at f;have r:lY st ⟨3,(a:Int),(b:Int),((l.getD a 0:Nat):Int)⟩=⟨3,(a:Int),(b:Int),((st.getD (l.getD a 0) 0:Nat):Int)⟩:=by unfold lY;rw[if_pos rfl];simp
  rw[r]at f;by_cases k:a<=c/\c<=b
  .refine⟨steps+1,.step (.refl _) (Gs hF.err hF.pos.2 ?_)⟩;rw[abQ (D:=Sk E C K n m steps (i:Int) (c:Int)) rfl f];have:(a:Int)<=(Sk E C K n m steps (i:Int) (c:Int)).c/\(Sk E C K n m steps (i:Int) (c:Int)).c<=(b:Int):=⟨by show (a:Int)<=c;omega,by show (c:Int)<=b;omega⟩;rw[if_pos this,A c k.1 k.2];rfl
  .obtain⟨J,H⟩:=I (i+1) (steps+1) (fun y u=>w y (mc_ _ u)) (fun j y d=>by
    have:=v (j+1) y (by rw[cs_];exact d);rw[(o_:i+1+j=i+(j+1))];exact this) (by
    obtain⟨y,u,d⟩:=p;rcases mm_.1 u with e | e
    .exfalso;rw[e]at d;have B:(a:Int)<=c:=d.1;have G:(c:Int)<=b:=d.2;omega
    .exact⟨y,e,d⟩)
   refine⟨J,qJ.trans (.step (.refl _) (Gs hF.err hF.pos.2 (F:=Sk E C K n m (steps+1) ((i+1:Nat):Int) (c:Int)) ?_)) H⟩;rw[abQ (D:=Sk E C K n m steps (i:Int) (c:Int)) rfl f];have:¬((a:Int)<=(Sk E C K n m steps (i:Int) (c:Int)).c/\(Sk E C K n m steps (i:Int) (c:Int)).c<=(b:Int)):=fun h=>by have B:(a:Int)<=c:=h.1;have G:(c:Int)<=b:=h.2;omega
   rw[if_neg this];rfl
theorem abt(hF:Ah E C){l:List Nat}(c:Nat)(z:l.getD c 0=0){m:Int × Int}:∀(d:List ed) (i:Nat) (steps:Int),(∀x∈d,Way l x)->(∀(j:Nat) (x:ed),d[j]?=some x->E.p.code[i+j]?=some (lY st x))->
  ∃p,qJ E (Sk E C K n m steps (i:Int) (c:Int)) (Sk E C K n m p ((i+d.length:Nat):Int) (c:Int)):=by
 intro d;induction d with
 | nil=>intro i steps _ _;exact⟨steps,.refl _⟩
 | cons x d v=>
  intro i steps k g;obtain⟨a,b,A,B,rfl,G,r⟩:=k x (ms_ ..);have f:=g 0 _ rfl;rw[Nat.add_zero]at f;have e:lY st ⟨3,(a:Int),(b:Int),((l.getD a 0:Nat):Int)⟩=⟨3,(a:Int),(b:Int),((st.getD (l.getD a 0) 0:Nat):Int)⟩:=by unfold lY;rw[if_pos rfl];simp
  rw[e]at f;obtain⟨w,u⟩:=v (i+1) (steps+1) (fun y h=>k y (mc_ _ h)) (fun j y h=>by
   have:=g (j+1) y (by rw[cs_];exact h);rw[(o_:i+1+j=i+(j+1))];exact this)
  refine⟨w,qJ.trans (.step (.refl _) (Gs hF.err hF.pos.2 (F:=Sk E C K n m (steps+1) ((i+1:Nat):Int) (c:Int)) ?_)) ?_⟩
  .rw [abQ (D:=Sk E C K n m steps (i:Int) (c:Int)) rfl f];have:¬((a:Int)<=(Sk E C K n m steps (i:Int) (c:Int)).c/\(Sk E C K n m steps (i:Int) (c:Int)).c<=(b:Int)):=fun h=>by have y:(a:Int)<=c:=h.1;have H:(c:Int)<=b:=h.2;have:=r c o_ o_;omega
   rw[if_neg this];rfl
  .rw [show i+(⟨3,(a:Int),(b:Int),((l.getD a 0:Nat):Int)⟩::d:List ed).length=i+1+d.length by rw[lc_];omega];exact u
theorem Pv(hF:Ah E C)(l:KOK K){k:aA}{steps c:Int}(j:¬K.length<=1)(d:K[Ov K 1 (wd E.s C.pos.toNat n)]?=some k)(p:Blo E.p.code st i k) :
  ∃f,qJ E (Sk E C K n (mk K E.s C.pos.toNat n) steps (i:Int) c) (Sk E C K n (mk K E.s C.pos.toNat (n+1)) f ((i+(if k.rule=-1 then 0 else 1):Nat):Int) c):=by
 have u:RK K (wd E.s C.pos.toNat n)=k.rule:=by unfold RK zz;rw[if_neg j,d]
 rw[Vw,u];by_cases a:k.rule=-1
 .rw [if_neg (fun h=>h.2 a),if_pos a];exact⟨steps,.refl _⟩
 .rw [if_neg a];have g:(dR k)[0]?=some ⟨1,k.rule,0,0⟩:=by unfold dR;rw[if_neg a];rfl
  have e:=p 0 _ g;rw[Nat.add_zero]at e;refine⟨steps+1,.step (.refl _) (Gs hF.err hF.pos.2 ?_)⟩;rw[ajT (D:=Sk E C K n (mk K E.s C.pos.toNat n) steps (i:Int) c) (r:=k.rule) rfl e];by_cases h:0<n
  .have:0<(Sk E C K n (mk K E.s C.pos.toNat n) steps (i:Int) c).looked:=by show (0:Int)<n;omega
   rw[if_pos this,if_pos ⟨h,a⟩];rfl
  .exfalso;have:n=0:=o_;subst this;have:=(l.none o_).1;unfold zz at this;have b:K[1]?=some k:=d;rw[b]at this;exact a this
theorem QH(l:List Nat):(iT l).length=0↔∀c,c<256->l.getD c 0=0:=by
 constructor
 .intro h c b;apply Classical.byContradiction;intro a;obtain⟨x,d,_⟩:=H9 l c b a;have:=List.length_pos_of_mem d;omega
 .intro h;cases hw:iT l with
  | nil=>rfl
  | cons x r=>exfalso;obtain⟨a,b,e,f,_,d,_⟩:=zX l x (by rw[hw];exact ms_ ..);exact d (h a o_)
theorem Gh(k:aA):((iT k.longer).length=0->(dR k)[if k.rule=-1 then 0 else 1]?=some ⟨5,0,0,0⟩)/\
  ((iT k.longer).length≠0->(dR k)[if k.rule=-1 then 0 else 1]?=some ⟨2,0,0,0⟩/\(∀(j:Nat) (x:ed),(iT k.longer)[j]?=some x->(dR k)[(if k.rule=-1 then 0 else 1)+1+j]?=some x)/\(dR k)[(if k.rule=-1 then 0 else 1)+1+(iT k.longer).length]?=some ⟨5,0,0,0⟩):=by
 unfold dR;generalize iT k.longer=c;refine⟨fun h=>?_,fun h=>?_⟩
 .rw [List.length_eq_zero_iff.1 h];by_cases b:k.rule=-1 <;> simp[b]
 .rw [if_neg h];by_cases b:k.rule=-1
  .simp only[if_pos b];refine⟨i_,fun j x a=>?_,?_⟩
   .have:=(ge_.1 a).1;simp only[List.nil_append,List.cons_append,Nat.zero_add];rw[Nat.add_comm 1 j,cs_,al_ this];exact a
   .simp only[List.nil_append,List.cons_append,Nat.zero_add];rw[Nat.add_comm 1 _,cs_,ar_ dF];simp
  .simp only[if_neg b];refine⟨i_,fun j x a=>?_,?_⟩
   .have:=(ge_.1 a).1;simp only[List.nil_append,List.cons_append];rw[(o_:1+1+j=j+1+1),cs_,cs_,al_ this];exact a
   .simp only[List.nil_append,List.cons_append];rw[(o_:1+1+c.length=c.length+1+1),cs_,cs_,ar_ dF];simp
theorem UZ(hF:Ah E C)(l:KOK K)(h:AtK E C K st n D)(d:OnK K (wd E.s C.pos.toNat n)) :
  ∃(steps c:Int) (i:Nat) (k:aA),qJ E D (Sk E C K n (mk K E.s C.pos.toNat (n+1)) steps (i:Int) c)/\E.p.code[i]?=some ⟨2,0,0,0⟩/\K[Ov K 1 (wd E.s C.pos.toNat n)]?=some k/\
   (∀(j:Nat) (x:ed),(iT k.longer)[j]?=some x->E.p.code[i+1+j]?=some (lY st x))/\E.p.code[i+1+(iT k.longer).length]?=some ⟨5,0,0,0⟩:=by
 obtain⟨steps,c,i,rfl,⟨k,a,e,A,f⟩ | ⟨a,e⟩⟩:=h
 .have g:(iT k.longer).length≠0:=fun g=>by obtain⟨_,c,p,b⟩:=d;unfold ZA at b;rw[e]at b;exact b ((QH _).1 g c p)
  obtain⟨z,u⟩:=Pv (st:=st) (steps:=steps) (c:=c) hF l a e f;obtain⟨v,w,y⟩:=(Gh k).2 g;refine⟨z,c,_,k,u,f _ _ v,e,fun j x r=>?_,?_⟩
  .have:=f _ _ (w j x r);rw[<-Nat.add_assoc,<-Nat.add_assoc]at this;exact this
  .have:=f _ _ y;rw[<-Nat.add_assoc,<-Nat.add_assoc]at this;exact this
 .exfalso;obtain⟨g,c,p,b⟩:=d;rcases a with a | a
  .exact g a
  .rw [a,l.zero]at b;exact b rfl
structure aaf(E:bI)(K:List aA)(st:List Nat):Prop where
 at_:∀(j:Nat) (k:aA),K[j]?=some k->1<=j->∃s,st[j]?=some s/\Blo E.p.code st s k
theorem aiY(hF:Ah E C)(B:KOK K)(I:aaf E K st)(h:AtK E C K st n D)(j:OnK K (wd E.s C.pos.toNat n))(Q:C.pos+n<E.s.size)(O:(n:Int)<E.most) :
  ∃A,qJ E D A/\AtK E C K st (n+1) A:=by
 obtain⟨c,f,i,k,L,N,F,G,y⟩:=UZ hF B h j;have bd:=iM E.s (C.pos.toNat+n);have u:(C.pos+(n:Int)).toNat=C.pos.toNat+n:=by have:=hF.pos;omega
 have e:Ov K 1 (wd E.s C.pos.toNat (n+1))=k.longer.getD (bt E.s (C.pos.toNat+n)).toNat 0:=by rw[afj,aaZ];unfold ZA;rw[F]
 have a:qJ E D (Sk E C K (n+1) (mk K E.s C.pos.toNat (n+1)) (c+1) ((i+1:Nat):Int) (((bt E.s (C.pos.toNat+n)).toNat:Nat):Int)):=by
  refine .step L (Gs hF.err hF.pos.2 ?_);rw[afS (D:=Sk E C K n (mk K E.s C.pos.toNat (n+1)) c (i:Int) f) rfl N];have b:¬(E.s.size:Int)<=(Sk E C K n (mk K E.s C.pos.toNat (n+1)) c (i:Int) f).pos+(Sk E C K n (mk K E.s C.pos.toNat (n+1)) c (i:Int) f).looked:=by show ¬(E.s.size:Int)<=C.pos+n;omega
  have d:¬E.most<=(Sk E C K n (mk K E.s C.pos.toNat (n+1)) c (i:Int) f).looked:=by show ¬E.most<=(n:Int);omega
  rw[if_neg b,if_neg d];have g:bt E.s ((Sk E C K n (mk K E.s C.pos.toNat (n+1)) c (i:Int) f).pos+(Sk E C K n (mk K E.s C.pos.toNat (n+1)) c (i:Int) f).looked).toNat=(((bt E.s (C.pos.toNat+n)).toNat:Nat):Int):=by show bt E.s (C.pos+(n:Int)).toNat=_;rw[u];omega
  rw[g];rfl
 generalize J:(bt E.s (C.pos.toNat+n)).toNat=d at *;have H:d<256:=o_;have p:=zX k.longer;by_cases r:k.longer.getD d 0=0
 .obtain⟨z,b⟩:=abt (K:=K) (st:=st) (n:=n+1) (m:=mk K E.s C.pos.toNat (n+1)) hF d r (iT k.longer) (i+1) (c+1) p G;refine⟨_,a.trans b,z,_,_,rfl,.inr ⟨.inr (by rw[e];exact r),y⟩⟩
 .obtain⟨z,b⟩:=aeo (K:=K) (st:=st) (n:=n+1) (m:=mk K E.s C.pos.toNat (n+1)) hF d (iT k.longer) (i+1) (c+1) p G (H9 _ d H r);have g:k.longer.getD d 0<K.length:=(B.len k (mg_ F)).2 d;obtain⟨s,w,x⟩:=I.at_ _ _ (gg_ g) o_;have v:st.getD (k.longer.getD d 0) 0=s:=by rw[gd_ (l:=st),w];rfl
  rw[v]at b;refine⟨_,a.trans b,z,_,s,rfl,.inl ⟨_,j.1,by rw[e];exact gg_ g,by rw[e];exact r,x⟩⟩
theorem aan(hF:Ah E C){e:Nat}(p:Q9 E.p.code e K)(r:C.ins=(e:Int)):∃st,aaf E K st/\AtK E C K st 0 C:=by
 have g:C=Sk E C K 0 (mk K E.s C.pos.toNat 0) C.steps (e:Int) C.c:=by
  unfold Sk mk;cases C;have:=hF.looked;have:=hF.rule;have:=hF.marked
  simp_all
 rcases p with ⟨c,d⟩ | ⟨c,st,d,l,f⟩
 .refine⟨[],⟨fun j k a h=>?_⟩,C.steps,C.c,e,g,.inr ⟨.inl c,d⟩⟩;have:=(ge_.1 a).1;omega
 .have h:K[1]?=some (K[1]'o_):=gg_ o_;obtain⟨s,a,b⟩:=f 1 _ h dF;rw[l]at a;have:e=s:=oi_ a;subst this;exact⟨st,⟨f⟩,C.steps,C.c,e,g,.inl ⟨_,o_,h,by show (1:Nat)≠0;omega,b⟩⟩
end
end Pu
namespace Pu
def pg(all:List aC):List (List aA):=(List.range (aV all)).map (fun j=>jW (dx all).1 (gJ all j))
def jU(ls:List aD):List mg:=ls.map (fun x=>⟨x.emit,x.act,x.md⟩)
def nH(all:List aC):lZ:=⟨(uP (pg all)).1,jU (dx all).1,(uP (pg all)).2⟩
theorem agY(h:Int)(x:aD):h<=yV h x/\x.mode<=yV h x/\x.md<=yV h x:=by unfold yV;split <;> split <;> (first | (split <;> omega) | omega)
theorem abe:∀(ls:List aD) (h:Int),h<=ls.foldl yV h/\∀x∈ls,x.mode<=ls.foldl yV h/\x.md<=ls.foldl yV h:=by
 intro ls;induction ls with
 | nil=>intro h;exact⟨Int.le_refl _,fun x a=>by simp at a⟩
 | cons y ls c=>
  intro h;have d:=agY h y;have b:=c (yV h y);refine⟨?_,fun x a=>?_⟩
  .show h<=ls.foldl yV (yV h y);omega
  .show x.mode<=ls.foldl yV (yV h y)/\x.md<=ls.foldl yV (yV h y);rcases mm_.1 a with e | e
   .subst e;omega
   .exact b.2 x e
section
variable {s:Y_} {all:List aC}
theorem ajV{y:aD}(e:y∈(dx all).1):∃x a,x∈all/\y=x.lp a:=by
 obtain⟨k,c⟩:=gf_ e;have d:k<all.length:=by rw[<-(jw all).n];exact (ge_.1 c).1
 obtain⟨a,b,_⟩:=qP all (gg_ d);rw[c]at b;exact⟨_,a,List.getElem_mem d,oi_ b⟩
theorem Ha(d:uk s 0 [] all):uo (jU (dx all).1) (aV all)/\(jU (dx all).1).length=all.length:=by
 have Ao:=d.Ao;have j:=Gv Ao.1;have h:(jU (dx all).1).length=all.length:=by unfold jU;rw[lm_,(jw all).n]
 refine⟨⟨o_,fun i k=>?_⟩,h⟩;have a:i<(dx all).1.length:=by rw[(jw all).n];omega
 have e:rg (jU (dx all).1) i=⟨((dx all).1[i]).emit,((dx all).1[i]).act,((dx all).1[i]).md⟩:=by unfold rg jU;rw[gd_,gm_,gg_ a];rfl
 rw[e];have b:=(abe (dx all).1 0).2 _ (List.getElem_mem a);obtain⟨x,p,g,c⟩:=ajV (List.getElem_mem a);have f:=Ao.1 x g;have l:(aV all:Int)=(dx all).1.foldl yV 0+1:=j.1.symm;unfold Np at f;rw[c]at b |-
 simp only[aC.lp]at b;unfold uM;simp only[aC.lp];omega
theorem Hg(b:∀j,j<aV all->(gJ all j).length<=42){j:Nat}(a:j<aV all):ZT (dx all).2 (jQ (dx all).1 (j:Int)) (gJ all j):=aaO _ _ _ (b j a)
theorem aew{j:Nat}{K:List aA}(h:(pg all)[j]?=some K):j<aV all/\K=jW (dx all).1 (gJ all j):=by
 unfold pg at h;rw[gm_]at h;by_cases c:j<aV all
 .rw [List.getElem?_range c]at h;exact⟨c,(oi_ h).symm⟩
 .rw [gn_ (by rw[List.length_range];omega)]at h;cases h
theorem yZ:(pg all).length=aV all:=by simp[pg]
theorem Gl(c:∀j,j<aV all->(gJ all j).length<=42){j:Nat}{K:List aA}(h:(pg all)[j]?=some K):xH all (j:Int) K:=by have b:=aew h;rw[b.2];have a:=b.1;exact Sn (ls:=all) (q:=dx all) (mode:=(j:Int)) (ss:=gJ all j) (jw all) (Hg c a) (c j a)
theorem yN(c:∀j,j<aV all->(gJ all j).length<=42):Laid all.length (pg all) (uP (pg all)):=
 OZ _ _ (fun m b=>by
  obtain⟨j,a⟩:=gf_ b;exact (Gl c a).ok)
theorem tu(a:uk s 0 [] all)(c:∀j,j<aV all->(gJ all j).length<=42):gu (nH all):=by have d:=Gv a.Ao.1;have b:=Ha a;exact (yN c).right (by rw[yZ];omega) (by rw[yZ];exact b.1) b.2
theorem ZT.places{ps:List aJ}{bg:List Nat}{ss:List aN}(h:ZT ps bg ss)(l:jh ps)(k:sJ ps.length bg):∀x∈ss,x.places.length<=ps.length:=by
 intro x p;obtain⟨i,a⟩:=gf_ p;have r:=(ge_.1 a).1;have d:qM ss i=x.places:=by unfold qM;rw[a]
 rw[<-d];by_cases c:2<=i
 .obtain⟨j,b,e,u,f,g⟩:=h.fr i c r;have:=(h.led j b e o_ f (.inl o_)).1;rw[g]at this;rw[this];refine (rf ps b ?_).len;unfold Cx;split
  .exact k
  .exact sV l _
 .have:qM ss i=[]:=by
   by_cases e:i=0
   .rw [e];unfold qM;rw[h.z0]
   .have:i=1:=o_;rw[this];exact h.p1
  rw[this];exact zl_ _
theorem Qn(b:uk s 0 [] all)(f:∀j,j<aV all->(gJ all j).length<=42){j:Nat}(d:j<aV all):∀x∈gJ all j,x.places.length<=s.size:=by
 have a:=jw all;have c:sJ (dx all).2.length (jQ (dx all).1 (j:Int)):=by rw[a.len];exact yM _ a.pts
 intro x e;have:=(Hg f d).places a.ok c x e;rw[a.len]at this;exact lt_ this b.KQ
end
end Pu
end Go.Proofs.YtmccnmgaoppogabGreat
