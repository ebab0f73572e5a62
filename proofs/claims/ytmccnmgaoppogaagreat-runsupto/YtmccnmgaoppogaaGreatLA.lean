import Derived.Test.YtmccnmgaoppogaaGreatJB
namespace Go.Proofs.YtmccnmgaoppogaaGreat
open Pu
set_option linter.all false
variable {i n s t:Nat} {kinds:List Nat} {ss:List aN} {D:bI}
namespace Pu
theorem Ca (l:List Nat):∀(f low c:Nat),low<=c->c<=iZ l low f->l.getD c 0=l.getD low 0:=by
 intro f
 induction f with
 | zero=>
  intro low c h1 h2;have:c=low:=by unfold iZ at h2;omega
  rw [this]
 | succ f ih=>
  intro low c h1 h2;unfold iZ at h2;split at h2
  .rename_i h
   by_cases e:c=low
   .rw [e]
   .rw [ih (low+1) c (by omega) h2,h.2]
  .have:c=low:=by omega
   rw [this]
def Way (l:List Nat) (x:dY):Prop:=∃a b:Nat,a<=b/\b<256/\x=⟨3,a,b,(l.getD a 0:Nat)⟩/\l.getD a 0≠0/\∀c,a<=c->c<=b->l.getD c 0=l.getD a 0
theorem Kh (l:List Nat):∀(f low:Nat) (acc:List dY),(∀x∈acc,Way l x)->∀x∈oO l f low acc,Way l x:=by
 intro f
 induction f with
 | zero=>intro low acc h;exact h
 | succ f ih=>
  intro low acc h;unfold oO;split
  .rename_i hl
   have bd:=xR l 256 low hl;refine ih _ _ ?_
   split
   .exact h
   .rename_i h0
    intro x hx;rcases ma_.1 hx with k | k
    .exact h x k
    .refine⟨low,iZ l low 256,bd.1,bd.2,List.mem_singleton.1 k,h0,fun c h1 h2=>Ca l 256 low c h1 h2⟩
  .exact h
theorem yN (l:List Nat):∀x∈iF l,Way l x:=Kh l 257 0 [] (fun x hx=>by simp at hx)
theorem Rq (l:List Nat):∀(f low:Nat) (acc:List dY) (x:dY),x∈acc->x∈oO l f low acc:=by
 intro f
 induction f with
 | zero=>intro low acc x h;exact h
 | succ f ih=>
  intro low acc x h;unfold oO;split
  .refine ih _ _ _ ?_
   split
   .exact h
   .exact List.mem_append_left _ h
  .exact h
theorem Kg (l:List Nat) (c:Nat) (hc:c<256) (h0:l.getD c 0≠0):∀(f low:Nat) (acc:List dY),257<=f+low->low<=c->∃x∈oO l f low acc,x.a<=c/\(c:Int)<=x.b:=by
 intro f
 induction f with
 | zero=>intro low acc h1 h2;omega
 | succ f ih=>
  intro low acc h1 h2;have hl:low<256:=by omega
  have bd:=xR l 256 low hl;unfold oO;rw [if_pos hl];by_cases h:c<=iZ l low 256
  .have hv:=Ca l 256 low c h2 h;rw [if_neg (by rw [<-hv];exact h0)];refine⟨⟨3,low,(iZ l low 256:Nat),(l.getD low 0:Nat)⟩,Rq l _ _ _ _ (List.mem_append_right _ (List.mem_singleton.2 rfl)),?_,?_⟩
   .show (low:Int)<=c;omega
   .show (c:Int)<=(iZ l low 256:Nat);omega
  .exact ih _ _ (by omega) (by omega)
theorem Ga (l:List Nat) (c:Nat) (hc:c<256) (h0:l.getD c 0≠0):∃x∈iF l,x.a<=c/\(c:Int)<=x.b:=Kg l c hc h0 257 0 [] (by omega) (zl_ _)
theorem Es (k:aA) (i:Nat) (x:dY) (h:(dL k)[i]?=some x) :
  (x=⟨1,k.rule,0,0⟩/\k.rule≠-1/\∃y,(dL k)[i+1]?=some y/\(y.op=2\/y.op=5))\/x=⟨2,0,0,0⟩\/x=⟨5,0,0,0⟩\/(Way k.longer x/\i+1<(dL k).length):=by
 have hw:=yN k.longer;have hl:=(ge_.1 h).1;unfold dL at h hl |-
 generalize iF k.longer=ws at *;by_cases c1:k.rule=-1
 .rw [if_pos c1] at h hl |-
  by_cases c2:ws.length=0
  .have:ws=[]:=List.length_eq_zero_iff.1 c2;subst this
   match i,h with
   | 0,h=>exact .inr (.inr (.inl (by simpa using h.symm)))
   | i+1,h=>simp at h
  .rw [if_neg c2] at h hl |-
   match i,h with
   | 0,h=>exact .inr (.inl (by simpa using h.symm))
   | i+1,h=>
    have h:(ws++[(⟨5,0,0,0⟩:dY)])[i]?=some x:=by simpa using h
    by_cases hi:i<ws.length
    .rw [al_ hi] at h;exact .inr (.inr (.inr ⟨hw x (mg_ h),by simp;omega⟩))
    .rw [ar_ (by omega)] at h;have:i-ws.length=0:=by have:=(ge_.1 h).1;simpa using this
     rw [this] at h;exact .inr (.inr (.inl (by simpa using h.symm)))
 .rw [if_neg c1] at h hl |-
  by_cases c2:ws.length=0
  .have:ws=[]:=List.length_eq_zero_iff.1 c2;subst this
   match i,h with
   | 0,h=>exact .inl ⟨by simpa using h.symm,c1,⟨5,0,0,0⟩,by simp,.inr rfl⟩
   | 1,h=>exact .inr (.inr (.inl (by simpa using h.symm)))
   | i+2,h=>simp at h
  .rw [if_neg c2] at h hl |-
   match i,h with
   | 0,h=>exact .inl ⟨by simpa using h.symm,c1,⟨2,0,0,0⟩,by simp,.inl rfl⟩
   | 1,h=>exact .inr (.inl (by simpa using h.symm))
   | i+2,h=>
    have h:(ws++[(⟨5,0,0,0⟩:dY)])[i]?=some x:=by simpa using h
    by_cases hi:i<ws.length
    .rw [al_ hi] at h;exact .inr (.inr (.inr ⟨hw x (mg_ h),by simp;omega⟩))
    .rw [ar_ (by omega)] at h;have:i-ws.length=0:=by have:=(ge_.1 h).1;simpa using this
     rw [this] at h;exact .inr (.inr (.inl (by simpa using h.symm)))
theorem Zg (k:aA):1<=(dL k).length/\(dL k).length<=259:=by have:=FZ k.longer;unfold dL;by_cases c1:k.rule=-1 <;> by_cases c2:(iF k.longer).length=0 <;> simp [c1,c2] <;> omega
theorem Vl (k:aA):∃y,(dL k)[0]?=some y/\(y.op=1\/y.op=2\/y.op=5):=by
 unfold dL;by_cases c1:k.rule=-1 <;> by_cases c2:(iF k.longer).length=0
 .rw [List.length_eq_zero_iff.1 c2];simp [c1]
 .simp [c1,c2]
 .simp [c1]
 .simp [c1]
def kJ:Nat->List aA->List Nat
 | _,[]=>[]
 | n,k::l=>n::kJ (n+(dL k).length) l
theorem zW:∀(l:List aA) (n:Nat),(kJ n l).length=l.length:=by
 intro l
 induction l with
 | nil=>intro n;rfl
 | cons k l ih=>intro n;rw [kJ,lc_,ih,lc_]
theorem xP (l:List aA):∀(c:List dY) (st:List Nat),l.foldl Im (c,st)=(c++l.flatMap dL,st++kJ c.length l):=by
 induction l with
 | nil=>intro c st;simp [kJ]
 | cons k l ih=>intro c st;rw [List.foldl_cons];show l.foldl Im (c++dL k,st++[c.length])=_;rw [ih,List.flatMap_cons,kJ];simp [aa_]
theorem JY:∀(l:List aA) (n j:Nat) (k:aA),l[j]?=some k->∃o,(kJ n l)[j]?=some (n+o)/\∀i x,(dL k)[i]?=some x->(l.flatMap dL)[o+i]?=some x:=by
 intro l
 induction l with
 | nil=>intro n j k h;simp at h
 | cons k0 l ih=>
  intro n j k h
  match j,h with
  | 0,h=>
   have:k0=k:=by simpa using h
   subst this;refine⟨0,by simp [kJ],fun i x hx=>?_⟩;rw [Nat.zero_add,List.flatMap_cons,al_ (ge_.1 hx).1];exact hx
  | j+1,h=>
   obtain⟨o,h1,h2⟩:=ih (n+(dL k0).length) j k (by simpa using h);refine⟨(dL k0).length+o,?_,fun i x hx=>?_⟩
   .rw [kJ,cs_,h1,Nat.add_assoc]
   .rw [List.flatMap_cons,ar_ (by omega),show (dL k0).length+o+i-(dL k0).length=o+i by omega];exact h2 i x hx
theorem Yh:∀(l:List aA) (n i:Nat) (x:dY),(l.flatMap dL)[i]?=some x->∃(j:Nat) (k:aA) (o i':Nat),l[j]?=some k/\(kJ n l)[j]?=some (n+o)/\i=o+i'/\(dL k)[i']?=some x:=by
 intro l
 induction l with
 | nil=>intro n i x h;simp at h
 | cons k0 l ih=>
  intro n i x h;rw [List.flatMap_cons] at h;by_cases c:i<(dL k0).length
  .rw [al_ c] at h;exact⟨0,k0,0,i,rfl,by simp [kJ],by omega,h⟩
  .rw [ar_ (by omega)] at h;obtain⟨j,k,o,i',h1,h2,h3,h4⟩:=ih (n+(dL k0).length) _ x h;refine⟨j+1,k,(dL k0).length+o,i',by simpa using h1,?_,by omega,h4⟩;rw [kJ,cs_,h2,Nat.add_assoc]
def QW (n:Nat) (all:List aA):List Nat:=0::kJ n (all.drop 1)
def nL (n:Nat) (all:List aA):List dY:=if all.length<=1 then [⟨5,0,0,0⟩] else ((all.drop 1).flatMap dL).map (kT (QW n all))
theorem Ev (code:List dY) (all:List aA):nz code all=code++nL code.length all:=by
 unfold nz nL;split
 .rfl
 .rw [xP];simp [QW]
theorem wQ (l:List aA):l.length<=(l.flatMap dL).length/\(l.flatMap dL).length<=259*l.length:=by
 induction l with
 | nil=>simp
 | cons k l ih=>have:=Zg k;rw [List.flatMap_cons,la_,lc_];omega
theorem A9 (n:Nat) (all:List aA) (h:all.length<=42):1<=(nL n all).length/\(nL n all).length<=10619:=by
 unfold nL;split
 .simp
 .have:=wQ (all.drop 1);rw [List.length_drop] at this;rw [lm_];omega
def Blo (code:List dY) (st:List Nat) (s:Nat) (k:aA):Prop:=∀i x,(dL k)[i]?=some x->code[s+i]?=some (kT st x)
def OP (code:List dY) (e:Nat) (all:List aA):Prop:=(all.length<=1/\code[e]?=some ⟨5,0,0,0⟩)\/
 (2<=all.length/\∃st:List Nat,st.length=all.length/\st[1]?=some e/\∀j k,all[j]?=some k->1<=j->∃s,st[j]?=some s/\Blo code st s k)
theorem wR {α:Type} {l:List α} {x:α} (h:l[i]?=some x) (r:List α):(l++r)[i]?=some x:=by rw [al_ (ge_.1 h).1];exact h
theorem Blo.more {code:List dY} {st:List Nat} {s:Nat} {k:aA} (h:Blo code st s k) (r:List dY):Blo (code++r) st s k:=fun i x hx=>wR (h i x hx) r
theorem OP.more {code:List dY} {e:Nat} {all:List aA} (h:OP code e all) (r:List dY):OP (code++r) e all:=by
 rcases h with ⟨h1,h2⟩ | ⟨h1,st,h2,h3,h4⟩
 .exact .inl ⟨h1,wR h2 r⟩
 .refine .inr ⟨h1,st,h2,h3,fun j k hj h=>?_⟩;obtain⟨s,h5,h6⟩:=h4 j k hj h;exact⟨s,h5,h6.more r⟩
theorem adu (code:List dY) (all:List aA) (c:¬all.length<=1) (j:Nat) (k:aA) (hj:all[j]?=some k) (h:1<=j):∃s,(QW code.length all)[j]?=some s/\Blo (code++nL code.length all) (QW code.length all) s k:=by
 unfold nL;rw [if_neg c]
 obtain⟨j,rfl⟩:∃j',j=j'+1:=⟨j-1,by omega⟩
 obtain⟨o,h1,h2⟩:=JY (all.drop 1) code.length j k (by rw [List.getElem?_drop,Nat.add_comm];exact hj);refine⟨code.length+o,by rw [QW,cs_];exact h1,fun i x hx=>?_⟩;have:=h2 i x hx;rw [ar_ (by omega),show code.length+o+i-code.length=o+i by omega,gm_,this];rfl
theorem Vo (code:List dY) (all:List aA):OP (code++nL code.length all) code.length all:=by
 by_cases c:all.length<=1
 .unfold nL;rw [if_pos c];exact .inl ⟨c,by simp⟩
 .refine .inr ⟨by omega,QW code.length all,?_,?_,adu code all c⟩
  .simp only [QW,lc_,zW,List.length_drop];omega
  .match all,c with
   | [],c=>simp at c
   | [_],c=>simp at c
   | k0::k1::l,_=>simp [QW,kJ]
def Gi (code:List dY) (R i:Nat) (x:dY):Prop:=
 (x.op=1/\0<=x.a/\x.a<R/\x.b=0/\x.bG=0/\∃y,code[i+1]?=some y/\(y.op=2\/y.op=5))\/x=⟨2,0,0,0⟩\/x=⟨5,0,0,0⟩\/
 (x.op=3/\0<=x.a/\x.a<=x.b/\x.b<=255/\i+1<code.length/\∃(t:Nat) (y:dY),x.bG=t/\code[t]?=some y/\(y.op=1\/y.op=2\/y.op=5))
theorem Gi.more {code:List dY} {R i:Nat} {x:dY} (h:Gi code R i x) (r:List dY):Gi (code++r) R i x:=by
 rcases h with ⟨h1,h2,h3,h4,h5,y,h6,h7⟩ | h | h | ⟨h1,h2,h3,h4,h5,t,y,h6,h7,h8⟩
 .exact .inl ⟨h1,h2,h3,h4,h5,y,wR h6 r,h7⟩
 .exact .inr (.inl h)
 .exact .inr (.inr (.inl h))
 .exact .inr (.inr (.inr ⟨h1,h2,h3,h4,by rw [la_];omega,t,y,h6,wR h7 r,h8⟩))
def Di (R:Nat) (all:List aA):Prop:=all.length<=42/\∀k∈all,(k.rule=-1\/(0<=k.rule/\k.rule<R))/\k.longer.length=256/\∀b,k.longer.getD b 0<all.length
theorem MQ (st:List Nat) (x:dY):(kT st x).op=x.op:=by unfold kT;split <;> rfl
theorem ack (R:Nat) (code:List dY) (all:List aA) (h:Di R all) (i:Nat) (x:dY) (hx:(nL code.length all)[i]?=some x):Gi (code++nL code.length all) R (code.length+i) x:=by
 by_cases c:all.length<=1
 .unfold nL at hx;rw [if_pos c] at hx
  match i,hx with
  | 0,hx=>exact .inr (.inr (.inl (by simpa using hx.symm)))
  | i+1,hx=>simp at hx
 .have hL:=adu code all c;have hM:nL code.length all=((all.drop 1).flatMap dL).map (kT (QW code.length all)):=by unfold nL;rw [if_neg c]
  rw [hM,gm_] at hx;have hMl:(nL code.length all).length=((all.drop 1).flatMap dL).length:=by rw [hM,lm_]
  cases hf:((all.drop 1).flatMap dL)[i]? with
  | none=>rw [hf] at hx;cases hx
  | some x0=>
   rw [hf] at hx;have hx:kT (QW code.length all) x0=x:=by simpa using hx
   obtain⟨j,k,o,i',h1,h2,h3,h4⟩:=Yh (all.drop 1) code.length i x0 hf;rw [List.getElem?_drop,Nat.add_comm] at h1;obtain⟨s,hs,hb⟩:=hL (j+1) k h1 (by omega);have hs2:s=code.length+o:=by rw [QW,cs_,h2] at hs;exact (oi_ hs).symm
   have hk:=h.2 k (mg_ h1);subst hx;rcases Es k i' x0 h4 with ⟨e,hr,y,hy,hyo⟩ | e | e | ⟨⟨a,b,w1,w2,rfl,w4,_⟩,w6⟩
   .subst e;have:=hb (i'+1) y hy;refine .inl ⟨rfl,?_,?_,rfl,rfl,kT (QW code.length all) y,?_,by rw [MQ];exact hyo⟩
    .show 0<=k.rule;rcases hk.1 with e | e
     .exact absurd e hr
     .exact e.1
    .show k.rule<R;rcases hk.1 with e | e
     .exact absurd e hr
     .exact e.2
    .rw [hs2] at this;rw [show code.length+i+1=code.length+o+(i'+1) by omega];exact this
   .subst e;exact .inr (.inl rfl)
   .subst e;exact .inr (.inr (.inl rfl))
   .have hlt:=hk.2.2 a;obtain⟨kv,hkv⟩:∃kv,all[k.longer.getD a 0]?=some kv:=⟨_,gg_ hlt⟩;obtain⟨sv,g1,g2⟩:=hL _ kv hkv (by omega);obtain⟨y,y1,y2⟩:=Vl kv;have y3:=g2 0 y y1;have hlast:code.length+i+1<(code++nL code.length all).length:=by have kU:=(ge_.1 (hb (i'+1) _ (gg_ w6))).1;omega
    refine .inr (.inr (.inr ⟨rfl,?_,?_,?_,hlast,sv,kT (QW code.length all) y,?_,y3,by rw [MQ];exact y2⟩))
    .show (0:Int)<=a;omega
    .show (a:Int)<=b;omega
    .show (b:Int)<=255;omega
    .show (((QW code.length all).getD (((k.longer.getD a 0:Nat):Int)).toNat 0:Nat):Int)=sv;rw [tn_,gd_ (l:=QW code.length all),g1];rfl
structure Uf (R:Nat) (code:List dY):Prop where
 gi:∀i x,code[i]?=some x->Gi code R i x
 last:code=[]\/∃x,code[code.length-1]?=some x/\x.op=5
theorem Qf (n:Nat) (all:List aA):∃x,(nL n all)[(nL n all).length-1]?=some x/\x.op=5:=by
 unfold nL;by_cases c:all.length<=1
 .rw [if_pos c];exact⟨_,rfl,rfl⟩
 .rw [if_neg c];have hne:(all.drop 1)≠[]:=fun e=>by have:=congrArg List.length e;rw [List.length_drop] at this;simp at this;omega
  obtain⟨l,k,hlk⟩:∃l k,all.drop 1=l++[k]:=⟨_,_,(List.dropLast_concat_getLast hne).symm⟩;obtain⟨r,hr⟩:∃r,dL k=r++[⟨5,0,0,0⟩]:=⟨_,rfl⟩
  have:(all.drop 1).flatMap dL=(l.flatMap dL++r)++[⟨5,0,0,0⟩]:=by rw [hlk,List.flatMap_append,List.flatMap_cons,List.flatMap_nil,List.append_nil,hr,aa_]
  rw [this];refine⟨⟨5,0,0,0⟩,?_,rfl⟩;simp [kT]
theorem Uf.mode {R:Nat} {code:List dY} (h:Uf R code) {all:List aA} (ha:Di R all):Uf R (code++nL code.length all):=by
 refine⟨fun i x hx=>?_,?_⟩
 .by_cases c:i<code.length
  .rw [al_ c] at hx;exact (h.gi i x hx).more _
  .rw [ar_ (by omega)] at hx;have:=ack R code all ha _ x hx;rwa [show code.length+(i-code.length)=i by omega] at this
 .right;obtain⟨x,h1,h2⟩:=Qf code.length all;have hl:=(A9 code.length all ha.1).1;refine⟨x,?_,h2⟩;rw [la_,ar_ (by omega),show code.length+(nL code.length all).length-1-code.length=(nL code.length all).length-1 by omega];exact h1
structure Laid (R:Nat) (modes:List (List aA)) (q:List Int × List dY):Prop where
 lain:Uf R q.2
 len:modes.length<=q.2.length/\q.2.length<=10619*modes.length
 ents:q.1.length=modes.length
 at_:∀(j:Nat) (all:List aA),modes[j]?=some all->∃e:Nat,q.1[j]?=some (e:Int)/\e<q.2.length/\OP q.2 e all
theorem MC (R:Nat) (modes:List (List aA)) (h:∀m∈modes,Di R m):Laid R modes (tN modes):=by
 have key:∀(todo done:List (List aA)) (q:List Int × List dY),(∀m∈todo,Di R m)->Laid R done q->Laid R (done++todo) (todo.foldl (fun q m=>(q.1++[(q.2.length:Int)],nz q.2 m)) q):=by
  intro todo
  induction todo with
  | nil=>intro done q _ hq;simpa using hq
  | cons m todo ih=>
   intro done q hm hq;rw [List.foldl_cons,show done++m::todo=(done++[m])++todo by simp];refine ih _ _ (fun m' h'=>hm m' (mc_ _ h')) ?_
   have hk:=hm m (ms_ ..);rw [Ev];have hl:=A9 q.2.length m hk.1;have e1:=hq.len;refine⟨hq.lain.mode hk,?_,by simp [hq.ents],fun j all hj=>?_⟩
   .simp only [la_,lc_,ln_];omega
   .by_cases c:j<done.length
    .rw [al_ c] at hj;obtain⟨e,h1,h2,h3⟩:=hq.at_ j all hj;exact⟨e,wR h1 _,by simp only [la_];omega,h3.more _⟩
    .rw [ar_ (by omega)] at hj;have e0:j-done.length=0:=by have:=(ge_.1 hj).1;simpa using this
     rw [e0] at hj;have:m=all:=by simpa using hj
     subst this;refine⟨q.2.length,?_,by simp only [la_];omega,Vo _ _⟩;rw [ar_ (by have:=hq.ents;omega),show j-q.1.length=0 by have:=hq.ents;omega];rfl
 have:=key modes [] ([],[]) h ⟨⟨fun i x hx=>by simp at hx,.inl rfl⟩,by simp,rfl,fun j all hj=>by simp at hj⟩;simpa [tN] using this
theorem Uf.aho {R:Nat} {code:List dY} (h:Uf R code):wo code:=by
 refine⟨fun i=>if (code.getD i aS).op=3 then 2+(code.length-i) else if (code.getD i aS).op=1 then 1 else 0,fun i hi j hj=>?_⟩;have hx:code[i]?=some (code.getD i aS):=by rw [gd_,gg_ hi];rfl
 have g:=h.gi i _ hx;have gd:∀{t:Nat} {y:dY},code[t]?=some y->code.getD t aS=y:=fun e=>by rw [gd_,e];rfl
 unfold succ fst snd at hj;show (if (code.getD j aS).op=3 then 2+(code.length-j) else if (code.getD j aS).op=1 then 1 else 0)<(if (code.getD i aS).op=3 then 2+(code.length-i) else if (code.getD i aS).op=1 then 1 else 0);generalize code.getD i aS=x at *;rcases g with ⟨h1,_,_,_,_,y,h6,h7⟩ | rfl | rfl | ⟨h1,_,_,_,h5,t,y,h6,h7,h8⟩
 .rw [if_pos (.inl h1),if_neg (by omega)] at hj;have:j=i+1:=by simpa using hj
  subst this;rw [gd h6,if_neg (by omega),if_neg (by omega),if_neg (by omega),if_pos h1];omega
 .simp at hj
 .simp at hj
 .rw [if_pos (.inr h1),if_pos (.inl h1)] at hj;have:j=i+1\/j=x.bG.toNat:=by simpa using hj
  rcases this with rfl | rfl
  .rw [if_pos h1];split
   .omega
   .split <;> omega
  .rw [if_pos h1,h6,tn_,gd h7,if_neg (by omega)];split <;> omega
theorem Laid.right {R:Nat} {modes:List (List aA)} {q:List Int × List dY} {rules:List mJ} (h:Laid R modes q) (hm:1<=modes.length/\modes.length<=4) (hr:sO rules modes.length) (hR:rules.length=R):iy ⟨q.1,rules,q.2⟩:=by
 have hl:=h.len;refine⟨⟨by have:=h.ents;show 1<=q.1.length/\q.1.length<=4;omega,fun i hi=>?_⟩,?_,⟨⟨?_,?_⟩,fun i hi=>?_,?_⟩,h.lain.aho⟩
 .have hi:i<q.1.length:=hi;obtain⟨e,h1,h2,_⟩:=h.at_ i _ (gg_ (by have:=h.ents;omega));show 0<=q.1.getD i 0/\q.1.getD i 0<q.2.length;rw [gd_,h1];simp only [Option.getD_some];omega
 .show sO rules q.1.length;rw [h.ents];exact hr
 .show 1<=q.2.length;omega
 .show q.2.length<=50000;omega
 .have hi:i<q.2.length:=hi;have hx:q.2[i]?=some (aO q.2 i):=by unfold aO;rw [gd_,gg_ hi];rfl
  show rz rules.length q.2.length (aO q.2 i);rcases h.lain.gi i _ hx with ⟨h1,h2,h3,h4,h5,_⟩ | e | e | ⟨h1,h2,h3,h4,_,t,y,h6,h7,_⟩
  .exact .inl ⟨h1,h2,by rw [hR];exact h3,h4,h5⟩
  .rw [e];exact .inr (.inl ⟨.inl rfl,rfl,rfl,rfl⟩)
  .rw [e];exact .inr (.inl ⟨.inr rfl,rfl,rfl,rfl⟩)
  .have:=(ge_.1 h7).1;exact .inr (.inr (.inl ⟨h1,h2,h3,h4,by omega,by omega⟩))
 .rcases h.lain.last with e | ⟨x,h1,h2⟩
  .have:q.2.length=0:=by rw [e];rfl
   omega
  .right;show (aO q.2 (q.2.length-1)).op=5;unfold aO;rw [gd_,h1];exact h2
end Pu
namespace Pu
structure Srt (n:Nat) (q:gG):Prop where
 kinds:q.kinds.length=n
 firsts:q.firsts.length<=n
 set:∀o∈q.firsts,o<n
 kind:∀k∈q.kinds,k<q.firsts.length
theorem Ih (ss:List aN) (rs:List Int) (kinds:List Nat) (n:Nat):Srt n (fM ss rs kinds n):=by
 have h:=uA ss rs kinds n;refine⟨h.1,h.2.1,h.2.2,?_⟩;clear h
 induction n with
 | zero=>intro k hk;simp [fM] at hk
 | succ n ih=>
  rw [rH];intro k hk;have hk:k∈(fM ss rs kinds n).kinds++[iA ss rs kinds n (fM ss rs kinds n).firsts]:=hk;show k<(if iA ss rs kinds n (fM ss rs kinds n).firsts=(fM ss rs kinds n).firsts.length then (fM ss rs kinds n).firsts++[n] else (fM ss rs kinds n).firsts).length;have hle:=AF ss rs kinds n (fM ss rs kinds n).firsts;have hm:(fM ss rs kinds n).firsts.length<=(if iA ss rs kinds n (fM ss rs kinds n).firsts=(fM ss rs kinds n).firsts.length then (fM ss rs kinds n).firsts++[n] else (fM ss rs kinds n).firsts).length:=by split <;> simp
  rcases ma_.1 hk with h | h
  .have:=ih k h;omega
  .rw [List.mem_singleton.1 h];split
   .rename_i e;simp;omega
   .omega
theorem QQ (ss:List aN) (rs:List Int):∀(f:Nat) (q:gG),(f=0->Srt ss.length q)->Srt ss.length (ny ss rs f q):=by
 intro f
 induction f with
 | zero=>intro q h;exact h rfl
 | succ f ih=>
  intro q _;unfold ny;split
  .exact Ih ..
  .exact ih _ (fun _=>Ih ..)
theorem IJ (ss:List aN) (rs:List Int):Srt ss.length (nN ss rs):=QQ ss rs _ _ (fun h=>by omega)
theorem Jl (ls:List aD) (t:List Nat):fU ls t=-1\/(0<=fU ls t/\fU ls t<ls.length):=by
 rcases uU t ls 0 with ⟨h,_⟩ | ⟨i,x,h1,h2,_⟩
 .exact .inl h
 .have:=(ge_.1 h1).1;unfold fU;omega
theorem Zh (ls:List aD) (ss:List aN) (h1:1<=ss.length) (h2:ss.length<=42):Di ls.length (jI ls ss):=by
 have hs:=IJ ss (dE ls ss);unfold jI;generalize nN ss (dE ls ss)=q at *;refine⟨by rw [lm_];have:=hs.firsts;omega,fun k hk=>?_⟩;obtain⟨o,ho,rfl⟩:=List.mem_map.1 hk
 have hpos:0<q.firsts.length:=by
  have hk0:0<q.kinds.length:=by rw [hs.kinds];omega
  have:=hs.kind _ (List.getElem_mem hk0);omega
 refine⟨?_,by simp [qo],fun b=>?_⟩
 .show (dE ls ss).getD o 0=-1\/_;have hlt:=hs.set o ho;have:(dE ls ss).getD o 0=fU ls (ss[o]).places:=by unfold dE;rw [gd_,gm_,gg_ hlt];rfl
  show (dE ls ss).getD o 0=-1\/(0<=(dE ls ss).getD o 0/\(dE ls ss).getD o 0<ls.length);rw [this];exact Jl ls _
 .rw [lm_]
  have hz:∀n,q.kinds.getD n 0<q.firsts.length:=fun n=>by
   rw [gd_];by_cases c:n<q.kinds.length
   .rw [gg_ c];exact hs.kind _ (List.getElem_mem c)
   .rw [gn_ (by omega)];exact hpos
  unfold qo;rw [gd_,gm_];by_cases c:b<256
  .rw [List.getElem?_range c];exact hz _
  .rw [gn_ (by simp;omega)];exact hpos
end Pu
namespace Pu
section
variable {ss:List aN} {rs:List Int}
def Kj (ss:List aN) (rs:List Int) (kinds:List Nat) (s t:Nat):Prop:=rs.getD s 0=rs.getD t 0/\∀c,c<256->kinds.getD (qp ss s c) 0=kinds.getD (qp ss t c) 0
theorem Kj.refl (kinds:List Nat) (s:Nat):Kj ss rs kinds s s:=⟨rfl,fun _ _=>rfl⟩
theorem Kj.symm {kinds:List Nat} {s t:Nat} (h:Kj ss rs kinds s t):Kj ss rs kinds t s:=⟨h.1.symm,fun c hc=>(h.2 c hc).symm⟩
theorem Kj.trans {kinds:List Nat} {s t u:Nat} (h:Kj ss rs kinds s t) (h':Kj ss rs kinds t u):Kj ss rs kinds s u:=⟨h.1.trans h'.1,fun c hc=>(h.2 c hc).trans (h'.2 c hc)⟩
theorem RV (kinds:List Nat) (s t:Nat):(rs.getD s 0=rs.getD t 0/\oD ss kinds s t 256=true)↔Kj ss rs kinds s t:=by unfold Kj oD;simp
theorem PH (kinds:List Nat) (s:Nat):∀l:List Nat,(iA ss rs kinds s l=l.length/\∀o∈l,¬Kj ss rs kinds s o)\/(∃o,l[iA ss rs kinds s l]?=some o/\Kj ss rs kinds s o):=by
 intro l
 induction l with
 | nil=>exact .inl ⟨rfl,fun o ho=>by simp at ho⟩
 | cons o l ih=>
  unfold iA;by_cases c:rs.getD s 0=rs.getD o 0/\oD ss kinds s o 256=true
  .rw [if_pos c];exact .inr ⟨o,rfl,(RV ..).1 c⟩
  .rw [if_neg c];rcases ih with ⟨h1,h2⟩ | ⟨o',h1,h2⟩
   .refine .inl ⟨by rw [h1,lc_],fun o' ho=>?_⟩;rcases mm_.1 ho with e | h
    .rw [e];exact fun h=>c ((RV ..).2 h)
    .exact h2 o' h
   .exact .inr ⟨o',by rw [cs_];exact h1,h2⟩
structure Fnr (ss:List aN) (rs:List Int) (kinds:List Nat) (n:Nat) (q:gG):Prop where
 len:q.kinds.length=n
 own:∀s,s<n->∃o,q.firsts[q.kinds.getD s 0]?=some o/\Kj ss rs kinds s o
 two:∀i j oi oj:Nat,q.firsts[i]?=some oi->q.firsts[j]?=some oj->Kj ss rs kinds oi oj->i=j
 self:∀i o:Nat,q.firsts[i]?=some o->o<n/\q.kinds.getD o 0=i
theorem zy {α:Type} (l:List α) (x d:α) (h:i<l.length):(l++[x]).getD i d=l.getD i d:=by rw [gd_,gd_,al_ h]
theorem zx {α:Type} (l:List α) (x d:α):(l++[x]).getD l.length d=x:=by rw [gd_,ar_ di];simp
theorem xJ (kinds:List Nat):∀n,Fnr ss rs kinds n (fM ss rs kinds n):=by
 intro n
 induction n with
 | zero=>exact⟨rfl,fun s h=>by omega,fun i j oi oj h=>by simp [fM] at h,fun i o h=>by simp [fM] at h⟩
 | succ n ih=>
  rw [rH];unfold Eg;generalize fM ss rs kinds n=q at *;have hl:(q.kinds++[iA ss rs kinds n q.firsts]).length=n+1:=by rw [la_,ih.len];rfl
  have g1:∀s,s<n->(q.kinds++[iA ss rs kinds n q.firsts]).getD s 0=q.kinds.getD s 0:=fun s hs=>zy _ _ _ (by rw [ih.len];exact hs)
  have g2:(q.kinds++[iA ss rs kinds n q.firsts]).getD n 0=iA ss rs kinds n q.firsts:=by have:=zx q.kinds (iA ss rs kinds n q.firsts) 0;rwa [ih.len] at this
  rcases PH (ss:=ss) (rs:=rs) kinds n q.firsts with ⟨h1,h2⟩ | ⟨o,h1,h2⟩
  .rw [if_pos h1]
   have hnew:∀(i o:Nat),(q.firsts++[n])[i]?=some o->(i<q.firsts.length/\q.firsts[i]?=some o)\/(i=q.firsts.length/\o=n):=fun i o h=>by
    by_cases c:i<q.firsts.length
    .rw [al_ c] at h;exact .inl ⟨c,h⟩
    .rw [ar_ (by omega)] at h;have e:i-q.firsts.length=0:=by have:=(ge_.1 h).1;simpa using this
     rw [e] at h;have:n=o:=by simpa using h
     exact .inr ⟨by omega,this.symm⟩
   refine⟨hl,fun s hs=>?_,fun i j oi oj hi hj ha=>?_,fun i o hi=>?_⟩
   .show ∃o,(q.firsts++[n])[_]?=some o/\_;by_cases c:s<n
    .obtain⟨o,h3,h4⟩:=ih.own s c;rw [g1 s c];refine⟨o,?_,h4⟩;rw [al_ (ge_.1 h3).1];exact h3
    .have:s=n:=by omega
     subst this;rw [g2,h1];exact⟨s,by simp,Kj.refl ..⟩
   .rcases hnew i oi hi with ⟨_,a⟩ | ⟨ei,a⟩ <;> rcases hnew j oj hj with ⟨_,b⟩ | ⟨ej,b⟩
    .exact ih.two i j oi oj a b ha
    .subst b;exact absurd ha.symm (h2 oi (mg_ a))
    .subst a;exact absurd ha (h2 oj (mg_ b))
    .omega
   .rcases hnew i o hi with ⟨_,a⟩ | ⟨ei,a⟩
    .have:=ih.self i o a;exact⟨by omega,by rw [g1 o this.1];exact this.2⟩
    .subst a;exact⟨by omega,by rw [g2,h1,ei]⟩
  .have hlt:=(ge_.1 h1).1;rw [if_neg (by omega)];refine⟨hl,fun s hs=>?_,ih.two,fun i o' hi=>?_⟩
   .by_cases c:s<n
    .rw [g1 s c];exact ih.own s c
    .have:s=n:=by omega
     subst this;rw [g2];exact⟨o,h1,h2⟩
   .have:=ih.self i o' hi;exact⟨by omega,by rw [g1 o' this.1];exact this.2⟩
theorem Fnr.iff {q:gG} (h:Fnr ss rs kinds n q) (hs:s<n) (ht:t<n):q.kinds.getD s 0=q.kinds.getD t 0↔Kj ss rs kinds s t:=by
 obtain⟨o,h1,h2⟩:=h.own s hs;obtain⟨o',h3,h4⟩:=h.own t ht;constructor
 .intro e;rw [e,h3] at h1;have:o'=o:=oi_ h1;subst this;exact h2.trans h4.symm
 .intro e;exact h.two _ _ o o' h1 h3 (h2.symm.trans (e.trans h4))
def yX (ss:List aN):Nat->List Nat->Nat
 | s,[]=>s
 | s,c::w=>yX ss (qp ss s c) w
def Eqv (ss:List aN) (rs:List Int) (s t:Nat):Prop:=∀w:List Nat,(∀c∈w,c<256)->rs.getD (yX ss s w) 0=rs.getD (yX ss t w) 0
def IQ (ss:List aN) (rs:List Int) (q:List Nat):Prop:=∀s t,s<ss.length->t<ss.length->Eqv ss rs s t->q.getD s 0=q.getD t 0
theorem Eqv.lead {c:Nat} (h:Eqv ss rs s t) (hc:c<256):Eqv ss rs (qp ss s c) (qp ss t c):=fun w hw=>h (c::w) (fun x hx=>by
 rcases mm_.1 hx with e | e
 .rw [e];exact hc
 .exact hw x e)
theorem qI (hlt:∀z∈ss,∀n∈z.longer,n<ss.length) (hs:s<ss.length) (c:Nat):qp ss s c<ss.length:=by
 unfold qp;rw [gg_ hs];show (ss[s]).longer.getD c 0<_;rw [gd_]
 cases h:(ss[s]).longer[c]? with
 | none=>exact Nat.lt_of_le_of_lt (zl_ _) hs
 | some n=>exact hlt _ (List.getElem_mem hs) n (mg_ h)
theorem uR (hlt:∀z∈ss,∀n∈z.longer,n<ss.length) (h:IQ ss rs kinds):IQ ss rs (fM ss rs kinds ss.length).kinds:=fun s t hs ht e=>
 ((xJ kinds ss.length).iff hs ht).2 ⟨e [] (fun c hc=>by simp at hc),fun c hc=>h _ _ (qI hlt hs c) (qI hlt ht c) (e.lead hc)⟩
def Ref (n:Nat) (k k':List Nat):Prop:=∀s t,s<n->t<n->k'.getD s 0=k'.getD t 0->k.getD s 0=k.getD t 0
theorem Qk (n:Nat) (l:List Nat) (hd:l.Nodup) (hl:∀v∈l,v<n) (hn:n<=l.length) (v:Nat) (hv:v<n):v∈l:=by
 apply Classical.byContradiction;intro h
 have:=rq n (v::l) (List.nodup_cons.2 ⟨h,hd⟩) (fun u hu=>by
  rcases mm_.1 hu with e | e
  .rw [e];exact hv
  .exact hl u e)
 rw [lc_] at this;omega
theorem zH {l:List Nat} (h:∀i j x:Nat,l[i]?=some x->l[j]?=some x->i=j):l.Nodup:=by rw [List.nodup_iff_pairwise_ne,List.pairwise_iff_getElem];intro i j hi hj hij e;have:=h i j l[i] (gg_ hi) (by rw [e];exact gg_ hj);omega
theorem QJ {ka kb:List Nat} {qa qb:gG} (ha:Fnr ss rs ka n qa) (hb:Fnr ss rs kb n qb) (hr:Ref n qa.kinds qb.kinds) (hl:qb.firsts.length<=qa.firsts.length):Ref n qb.kinds qa.kinds:=by
 have hnd:(qa.firsts.map (fun o=>qb.kinds.getD o 0)).Nodup:=by
  refine zH (fun i j x hi hj=>?_);rw [gm_] at hi hj
  cases gi:qa.firsts[i]? with
  | none=>rw [gi] at hi;cases hi
  | some oi=>
   cases gj:qa.firsts[j]? with
   | none=>rw [gj] at hj;cases hj
   | some oj=>rw [gi] at hi;rw [gj] at hj;have e:qb.kinds.getD oi 0=qb.kinds.getD oj 0:=(oi_ hi).trans (oi_ hj).symm;have si:=ha.self i oi gi;have sj:=ha.self j oj gj;have:=hr oi oj si.1 sj.1 e;omega
 have hlt:∀v∈qa.firsts.map (fun o=>qb.kinds.getD o 0),v<qb.firsts.length:=fun v hv=>by obtain⟨o,ho,rfl⟩:=List.mem_map.1 hv;obtain⟨i,hi⟩:=gf_ ho;obtain⟨o',h1,_⟩:=hb.own o (ha.self i o hi).1;exact (ge_.1 h1).1
 have full:=Qk qb.firsts.length _ hnd hlt (by rw [lm_];exact hl);have pick:∀s,s<n->∃o,o<n/\qa.firsts[qa.kinds.getD s 0]?=some o/\qb.kinds.getD o 0=qb.kinds.getD s 0:=fun s hs=>by obtain⟨o',h1,_⟩:=hb.own s hs;obtain⟨o,ho,e⟩:=List.mem_map.1 (full _ (ge_.1 h1).1);obtain⟨i,hi⟩:=gf_ ho;have hs':=ha.self i o hi;have:=hr o s hs'.1 hs e;exact⟨o,hs'.1,by rw [<-this,hs'.2];exact hi,e⟩
 intro s t hs ht e;obtain⟨o,_,h1,h2⟩:=pick s hs;obtain⟨o',_,h3,h4⟩:=pick t ht;rw [e,h3] at h1;have:o'=o:=oi_ h1;subst this;exact h2.symm.trans h4
structure OJ (ss:List aN) (rs:List Int) (q:gG):Prop where
 fin:∃kinds,Fnr ss rs kinds ss.length q/\Ref ss.length q.kinds kinds
 coarse:IQ ss rs q.kinds
theorem LM (kinds:List Nat) (h:0<ss.length):0<(fM ss rs kinds ss.length).firsts.length:=by obtain⟨o,h1,_⟩:=(xJ (ss:=ss) (rs:=rs) kinds ss.length).own 0 h;have:=(ge_.1 h1).1;omega
theorem N9 (hlt:∀z∈ss,∀n∈z.longer,n<ss.length):∀(f:Nat) (q:gG) (kinds:List Nat),Fnr ss rs kinds ss.length q->Ref ss.length kinds q.kinds->IQ ss rs q.kinds->ss.length<f+q.firsts.length->OJ ss rs (ny ss rs f q):=by
 intro f
 induction f with
 | zero=>
  intro q kinds h1 h2 h3 h4;exfalso
  have hnd:q.firsts.Nodup:=zH (fun i j x hi hj=>by
   have a:=(h1.self i x hi).2;have b:=(h1.self j x hj).2
   omega)
  have:=rq ss.length q.firsts hnd (fun v hv=>by
   obtain⟨i,hi⟩:=gf_ hv
   exact (h1.self i v hi).1)
  omega
 | succ f ih=>
  intro q kinds h1 h2 h3 h4;unfold ny;have hf:=xJ (ss:=ss) (rs:=rs) q.kinds ss.length;have hr:Ref ss.length q.kinds (fM ss rs q.kinds ss.length).kinds:=fun s t hs ht e=>by have:=(hf.iff hs ht).1 e;exact (h1.iff hs ht).2 ⟨this.1,fun c hc=>h2 _ _ (qI hlt hs c) (qI hlt ht c) (this.2 c hc)⟩
  split
  .rename_i hl
   exact⟨⟨q.kinds,hf,QJ h1 hf hr hl⟩,uR hlt h3⟩
  .exact ih _ q.kinds hf hr (uR hlt h3) (by omega)
theorem QR (hlt:∀z∈ss,∀n∈z.longer,n<ss.length) (h0:0<ss.length):OJ ss rs (nN ss rs):=by
 unfold nN ny;have hp:=LM (ss:=ss) (rs:=rs) (List.replicate ss.length 0) h0;have hn0:¬(fM ss rs (List.replicate ss.length 0) ss.length).firsts.length<=0:=by omega
 show OJ ss rs (if (fM ss rs (List.replicate ss.length 0) ss.length).firsts.length<=0 then fM ss rs (List.replicate ss.length 0) ss.length else ny ss rs ss.length (fM ss rs (List.replicate ss.length 0) ss.length));rw [if_neg hn0];have h0':∀s,(List.replicate ss.length 0).getD s 0=0:=fun s=>by rw [gd_,List.getElem?_replicate];split <;> rfl
 refine N9 hlt _ _ (List.replicate ss.length 0) (xJ _ _) (fun s t _ _ _=>by rw [h0',h0']) (uR hlt (fun s t _ _ _=>by show (List.replicate ss.length 0).getD s 0=(List.replicate ss.length 0).getD t 0;rw [h0',h0'])) ?_
 show ss.length<ss.length+(fM ss rs (List.replicate ss.length 0) ss.length).firsts.length;omega
theorem OJ.Un {q:gG} (h:OJ ss rs q) (hlt:∀z∈ss,∀n∈z.longer,n<ss.length) (hs:s<ss.length) (ht:t<ss.length) (e:q.kinds.getD s 0=q.kinds.getD t 0):Kj ss rs q.kinds s t:=by obtain⟨kinds,hf,hr⟩:=h.fin;have:=(hf.iff hs ht).1 e;exact⟨this.1,fun c hc=>hr _ _ (qI hlt hs c) (qI hlt ht c) (this.2 c hc)⟩
theorem OJ.eqv {q:gG} (h:OJ ss rs q) (hlt:∀z∈ss,∀n∈z.longer,n<ss.length) (hs:s<ss.length) (ht:t<ss.length):q.kinds.getD s 0=q.kinds.getD t 0↔Eqv ss rs s t:=by
 constructor
 .intro e w
  induction w generalizing s t with
  | nil=>intro _;exact (h.Un hlt hs ht e).1
  | cons c w ih=>intro hw;exact ih (qI hlt hs c) (qI hlt ht c) ((h.Un hlt hs ht e).2 c (hw c (ms_ ..))) (fun x hx=>hw x (mc_ _ hx))
 .exact h.coarse s t hs ht
end
end Pu
namespace Pu
def Fe (ps:List aJ) (bg:List Nat) (ss:List aN) (i:Nat):List Nat:=if i=1 then bg else ji ps (qK ss i)
structure Wk (ps:List aJ) (bg:List Nat) (k b:Nat) (ss:List aN):Prop where
 two:2<=ss.length
 z0:ss[0]?=some ⟨[],jU⟩
 p1:qK ss 1=[]
 all:∀(i:Nat) (s:aN),ss[i]?=some s->s.longer.length=256/\∀n∈s.longer,n<ss.length
 led:∀i c,1<=i->i<ss.length->c<256->(i<k\/(i=k/\c<b))->qK ss (qp ss i c)=taking ps (Fe ps bg ss i) c/\qp ss i c≠1
 zero:∀i c,(k<i\/(i=k/\b<=c))->qp ss i c=0
 fr:∀i,2<=i->i<ss.length->∃j c,1<=j/\j<i/\c<256/\qp ss j c=i
 dis:∀i j,i<j->j<ss.length->2<=j->qK ss i≠qK ss j
theorem U8 (t:List Nat):∀ss:List aN,iI t ss<ss.length->∃s,ss[iI t ss]?=some s/\s.places=t:=by
 intro ss
 induction ss with
 | nil=>intro h;simp at h
 | cons s r ih=>
  intro h;unfold iI at h |-;split
  .rename_i e;exact⟨s,rfl,e⟩
  .rename_i e
   rw [if_neg e,lc_] at h;obtain⟨s',h1,h2⟩:=ih (by omega);exact⟨s',by rw [cs_];exact h1,h2⟩
theorem U9 (t:List Nat):∀ss:List aN,¬iI t ss<ss.length->∀i,i<ss.length->qK ss i≠t:=by
 intro ss
 induction ss with
 | nil=>intro _ i hi;simp at hi
 | cons s r ih=>
  intro h i hi;unfold iI at h;by_cases e:s.places=t
  .rw [if_pos e] at h;simp at h
  .rw [if_neg e] at h
   cases i with
   | zero=>exact e
   | succ i=>have:=ih (by rw [lc_] at h;omega) i (by rw [lc_] at hi;omega);exact this
theorem Va (t:List Nat) (h0:qK ss 0=[]) (h1:qK ss 1=[]) (hl:2<=ss.length):iI t ss≠1:=by
 match ss,hl with
 | a::b::r,_=>
  have a0:a.places=[]:=h0;have b0:b.places=[]:=h1;unfold iI;split
  .omega
  .rename_i e
   unfold iI;rw [if_neg (by rw [b0];rw [a0] at e;exact e)];omega
section
variable {ps:List aJ} {bg:List Nat}
theorem zJ (ss:List aN) (t:List Nat) (h:i<ss.length):(gJ ss t)[i]?=ss[i]?:=by
 unfold gJ;split
 .rfl
 .rw [al_ h]
theorem zF (ss:List aN) (f b n i:Nat):(je ss f b n)[i]?=(ss[i]?).map (fun s=>if f=i then { s with longer:=s.longer.set b n } else s):=by unfold je;rw [List.getElem?_modify];by_cases h:f=i <;> simp [h]
theorem uG (ss:List aN) (f b n:Nat):(je ss f b n).length=ss.length:=by simp [je]
theorem zP (ss:List aN) (f b n i:Nat):qK (je ss f b n) i=qK ss i:=by
 unfold qK;rw [zF]
 cases ss[i]? with
 | none=>rfl
 | some s=>simp only [Option.map_some];split <;> rfl
theorem Zm (ss:List aN) (f b n i c:Nat) (hl:∀s,ss[f]?=some s->s.longer.length=256) (hb:b<256) (hf:f<ss.length):qp (je ss f b n) i c=if i=f/\c=b then n else qp ss i c:=by
 unfold qp;rw [zF];by_cases e:f=i
 .subst e;obtain⟨s,hs⟩:=qG ss f hf;rw [hs];simp only [Option.map_some,if_pos];rw [gd_,List.getElem?_set,gd_];by_cases d:b=c
  .subst d;simp [hl s hs,hb]
  .rw [if_neg d,if_neg (fun h=>d h.2.symm)]
 .rw [if_neg (fun h=>e h.1.symm)]
  cases ss[i]? with
  | none=>rfl
  | some s=>simp [e]
theorem Tu (ss:List aN) (t:List Nat) (h:i<ss.length):qK (gJ ss t) i=qK ss i:=by unfold qK;rw [zJ ss t h]
theorem acr (ss:List aN) (t:List Nat) (i c:Nat):qp (gJ ss t) i c=qp ss i c:=by
 unfold gJ;split
 .rfl
 .unfold qp;by_cases h:i<ss.length
  .rw [al_ h]
  .rw [gn_ (l:=ss) (by omega),ar_ (by omega)];by_cases e:i-ss.length=0
   .rw [e];show jU.getD c 0=0;unfold jU;rw [gd_,List.getElem?_replicate];split <;> rfl
   .rw [gn_ (by simp;omega)]
theorem ZM (ss:List aN) (t:List Nat):iI t ss<(gJ ss t).length/\qK (gJ ss t) (iI t ss)=t:=by
 unfold gJ;by_cases h:iI t ss<ss.length
 .rw [if_pos h];obtain⟨s,h1,h2⟩:=U8 t ss h;refine⟨h,?_⟩;unfold qK;rw [h1];exact h2
 .rw [if_neg h];have e:iI t ss=ss.length:=by have:=Ml t ss;omega
  rw [e];refine⟨by simp,?_⟩;unfold qK;rw [ar_ di];simp
theorem Nj (ss:List aN) (t:List Nat):(gJ ss t).length=ss.length\/((gJ ss t).length=ss.length+1/\iI t ss=ss.length):=by
 unfold gJ;split
 .exact .inl rfl
 .have:=Ml t ss;exact .inr ⟨by simp,by omega⟩
theorem Wk.step {k b:Nat} {ss:List aN} (h:Wk ps bg k b ss) (hk:k<ss.length) (hk1:1<=k) (hb:b<256):Wk ps bg k (b+1) (nP ps (Fe ps bg ss k) k ss b):=by
 unfold nP;generalize ht:taking ps (Fe ps bg ss k) b=t;have hn:=ZM ss t;have kU:=Nj ss t;have p0:qK ss 0=[]:=by unfold qK;rw [h.z0]
 have n1:=Va t p0 h.p1 h.two;have hge:ss.length<=(gJ ss t).length:=by omega
 have agY:∀s,(gJ ss t)[k]?=some s->s.longer.length=256:=fun s hs=>by rw [zJ ss t hk] at hs;exact (h.all k s hs).1
 have lg:∀i c,qp (je (gJ ss t) k b (iI t ss)) i c=if i=k/\c=b then iI t ss else qp ss i c:=fun i c=>by rw [Zm _ _ _ _ _ _ agY hb (by omega),acr]
 have pl:∀i,i<ss.length->qK (je (gJ ss t) k b (iI t ss)) i=qK ss i:=fun i hi=>by rw [zP,Tu ss t hi]
 have lt:∀i c,i<ss.length->qp ss i c<ss.length:=fun i c hi=>qI (fun z hz n hz'=>by
  obtain⟨j,hj⟩:=gf_ hz
  exact (h.all j z hj).2 n hz') hi c
 have hrd:∀i,i<ss.length->Fe ps bg (je (gJ ss t) k b (iI t ss)) i=Fe ps bg ss i:=fun i hi=>by unfold Fe;rw [pl i hi]
 refine⟨by rw [uG];have:=h.two;omega,?_,by rw [pl 1 (by have:=h.two;omega)];exact h.p1,fun i s hs=>?_,fun i c h1 hi hc hic=>?_,fun i c hic=>?_,fun i h2 hi=>?_,fun i j hij hj h2=>?_⟩
 .rw [zF,zJ ss t (by omega),h.z0];simp only [Option.map_some];rw [if_neg (by omega)]
 .rw [zF] at hs;rw [uG]
  cases hx:(gJ ss t)[i]? with
  | none=>rw [hx] at hs;cases hs
  | some s0=>
   rw [hx] at hs
   have aeY:s0.longer.length=256/\∀n∈s0.longer,n<(gJ ss t).length:=by
    by_cases hi:i<ss.length
    .rw [zJ ss t hi] at hx;have:=h.all i s0 hx;exact⟨this.1,fun n hn'=>Nat.lt_of_lt_of_le (this.2 n hn') hge⟩
    .have hi':=(ge_.1 hx).1
     have:s0=⟨t,jU⟩:=by
      unfold gJ at hx;split at hx
      .rw [gn_ (by omega)] at hx;cases hx
      .rename_i hnn
       have e:i=ss.length:=by omega
       subst e;rw [ar_ di] at hx;simpa using hx.symm
     subst this;refine⟨lp_,fun n hn'=>?_⟩;have:n=0:=by have hn':n∈jU:=hn';unfold jU at hn';exact List.eq_of_mem_replicate hn'
     omega
   have hs:(if k=i then { s0 with longer:=s0.longer.set b (iI t ss) } else s0)=s:=by simpa using hs
   subst hs;split
   .refine⟨by simp [aeY.1],fun n hn'=>?_⟩;rcases List.mem_or_eq_of_mem_set hn' with g | g
    .exact aeY.2 n g
    .rw [g];exact hn.1
   .exact aeY
 .rw [uG] at hi;have hik:i<=k:=by omega
  rw [lg];rw [hrd i (by omega)];by_cases e:i=k/\c=b
  .rw [if_pos e,zP];obtain⟨e1,e2⟩:=e;subst e1 e2;exact⟨by rw [ht];exact hn.2,n1⟩
  .rw [if_neg e];have:=h.led i c h1 (by omega) hc (by omega);rw [pl _ (lt i c (by omega))];exact this
 .rw [lg,if_neg (by omega)];exact h.zero i c (by omega)
 .rw [uG] at hi;by_cases c:i<ss.length
  .obtain⟨j,c',h3,h4,h5,h6⟩:=h.fr i h2 c;refine⟨j,c',h3,h4,h5,?_⟩;rw [lg,if_neg (fun e=>?_)]
   .exact h6
   .have:=h.zero j c' (.inr ⟨e.1,by omega⟩);omega
  .refine⟨k,b,hk1,by omega,hb,?_⟩;rw [lg,if_pos ⟨rfl,rfl⟩];omega
 .rw [uG] at hj;by_cases c:j<ss.length
  .rw [pl i (by omega),pl j c];exact h.dis i j hij c h2
  .have hidx:¬iI t ss<ss.length:=by omega
   have ej:j=iI t ss:=by omega
   rw [pl i (by omega),ej,zP,hn.2];exact U9 t ss hidx i (by omega)
theorem Vq (ps:List aJ) (ready:List Nat) (k:Nat) (ss:List aN) (b:Nat):ss.length<=(nP ps ready k ss b).length:=by unfold nP;rw [uG];have:=Nj ss (taking ps ready b);omega
theorem Zk (ps:List aJ) (ready:List Nat) (k:Nat) (ss:List aN) (b i:Nat) (hi:i<ss.length):qK (nP ps ready k ss b) i=qK ss i:=by unfold nP;rw [Pu.zP,Tu ss _ hi]
theorem Wk.lead {k:Nat} (h:Wk ps bg k 0 ss) (hk:k<ss.length) (hk1:1<=k):∀b,b<=256->Wk ps bg k b (mD ps (Fe ps bg ss k) k ss b)/\k<(mD ps (Fe ps bg ss k) k ss b).length/\qK (mD ps (Fe ps bg ss k) k ss b) k=qK ss k:=by
 intro b
 induction b with
 | zero=>intro _;exact⟨h,hk,rfl⟩
 | succ b ih=>
  intro hb;obtain⟨h1,h2,h3⟩:=ih (by omega);have e:mD ps (Fe ps bg ss k) k ss (b+1)=nP ps (Fe ps bg ss k) k (mD ps (Fe ps bg ss k) k ss b) b:=by unfold mD;rw [List.range_succ,List.foldl_append];rfl
  have er:Fe ps bg (mD ps (Fe ps bg ss k) k ss b) k=Fe ps bg ss k:=by unfold Fe at h3 |-;rw [h3]
  rw [e];have st:=h1.step h2 hk1 (by omega);rw [er] at st;exact⟨st,Nat.lt_of_lt_of_le h2 (Vq ..),(Zk _ _ _ _ _ _ h2).trans h3⟩
theorem Wk.next {k:Nat} (h:Wk ps bg k 256 ss):Wk ps bg (k+1) 0 ss:=
 ⟨h.two,h.z0,h.p1,h.all,fun i c h1 hi hc hic=>h.led i c h1 hi hc (by omega),fun i c hic=>h.zero i c (by omega),h.fr,h.dis⟩
theorem abI:∀(f k:Nat) (ss:List aN),2<=k->45<=f+k->Wk ps bg k 0 ss->∃k',Wk ps bg k' 0 (pI ps f k ss)/\((pI ps f k ss).length<=42->(pI ps f k ss).length<=k'):=by
 intro f
 induction f with
 | zero=>intro k ss _ hf h;exact⟨k,h,fun h'=>by unfold pI at h' |-;omega⟩
 | succ f ih=>
  intro k ss hk hf h;unfold pI;by_cases c:k<ss.length/\ss.length<=42
  .rw [if_pos c];have hl:=(h.lead c.1 (by omega) 256 di).1.next;have er:Fe ps bg ss k=ji ps (qK ss k):=by unfold Fe;rw [if_neg (by omega)]
   rw [er] at hl;exact ih (k+1) _ (by omega) (by omega) hl
  .rw [if_neg c];exact⟨k,h,fun h'=>by omega⟩
theorem ae9:Wk ps bg 1 0 Oc:=by
 have z:∀c,jU.getD c 0=0:=fun c=>by unfold jU;rw [gd_,List.getElem?_replicate];split <;> rfl
 have lz:∀i c,qp Oc i c=0:=fun i c=>by
  unfold qp Oc
  match i with
  | 0=>exact z c
  | 1=>exact z c
  | i+2=>rfl
 refine⟨di,rfl,rfl,fun i s hs=>?_,fun i c h1 hi hc hic=>?_,fun i c _=>lz i c,fun i h2 hi=>?_,fun i j _ hj h2=>?_⟩
 .have:s=⟨[],jU⟩:=by
   unfold Oc at hs
   match i,hs with
   | 0,hs=>simpa using hs.symm
   | 1,hs=>simpa using hs.symm
   | i+2,hs=>simp at hs
  subst this;refine⟨lp_,fun n hn=>?_⟩;have:n∈List.replicate 256 0:=hn;rw [List.eq_of_mem_replicate this];decide
 .omega
 .have:i<2:=hi;omega
 .have:j<2:=hj;omega
end
def Xr (ps:List aJ) (bg:List Nat) (ss:List aN):Prop:=Wk ps bg ss.length 0 ss
theorem Yy (ls:List aD) (ps:List aJ) (mode:Int) (h:(pJ ls ps mode).length<=42):Xr ps (jG ls mode) (pJ ls ps mode):=by
 have h1:=((ae9 (ps:=ps) (bg:=jG ls mode)).lead (by decide) di 256 di).1.next
 have er:Fe ps (jG ls mode) Oc 1=jG ls mode:=by unfold Fe;rw [if_pos rfl]
 rw [er] at h1;obtain⟨k,hk,hl⟩:=abI 43 2 _ di di h1;unfold pJ at h |-
 have hl:=hl h;refine⟨hk.two,hk.z0,hk.p1,hk.all,fun i c g1 hi hc _=>hk.led i c g1 hi hc (by omega),fun i c hic=>?_,hk.fr,hk.dis⟩;unfold qp;rw [gn_ (by omega)]
theorem Xr.lt {ps:List aJ} {bg:List Nat} (h:Xr ps bg ss):∀z∈ss,∀n∈z.longer,n<ss.length:=fun z hz n hn=>by obtain⟨j,hj⟩:=gf_ hz;exact (h.all j z hj).2 n hn
theorem Xr.go {q:List aD × List aJ} {mode:Int} (h:Xr q.2 (jG q.1 mode) ss):∀(w:List Nat),(∀c∈w,c<256)->yX ss 1 w<ss.length/\qK ss (yX ss 1 w)=Fw q mode w:=by
 have key:∀(w:List Nat) (i:Nat),i<ss.length->i≠1->(∀c∈w,c<256)->yX ss i w<ss.length/\qK ss (yX ss i w)=goW q.2 (qK ss i) w:=by
  intro w
  induction w with
  | nil=>intro i hi _ _;exact⟨hi,rfl⟩
  | cons c w ih=>
   intro i hi h1 hw;have hc:=hw c (ms_ ..);have hw':∀c∈w,c<256:=fun x hx=>hw x (mc_ _ hx)
   have hlt:=qI h.lt hi c;unfold yX goW;by_cases e:i=0
   .subst e;have p0:qK ss 0=[]:=by unfold qK;rw [h.z0]
    have l0:qp ss 0 c=0:=by unfold qp;rw [h.z0];show jU.getD c 0=0;unfold jU;rw [gd_,List.getElem?_replicate];split <;> rfl
    have:=ih 0 hi (by omega) hw';rw [l0,p0];rw [p0] at this;exact this
   .have:=h.led i c (by omega) hi hc (.inl hi);have ih':=ih (qp ss i c) hlt this.2 hw';rw [this.1] at ih';unfold Fe at ih';rw [if_neg h1] at ih';exact ih'
 intro w hw
 cases w with
 | nil=>exact⟨by have:=h.two;show 1<_;omega,h.p1⟩
 | cons c w=>
  have h1:1<ss.length:=by have:=h.two;omega
  have:=h.led 1 c di h1 (hw c (ms_ ..)) (.inl h1);have ih':=key w (qp ss 1 c) (qI h.lt h1 c) this.2 (fun x hx=>hw x (mc_ _ hx));rw [this.1] at ih';unfold Fe at ih';rw [if_pos rfl] at ih';exact ih'
theorem Xr.word {ps:List aJ} {bg:List Nat} (h:Xr ps bg ss):∀(n i:Nat),i<=n->1<=i->i<ss.length->∃w,(∀c∈w,c<256)/\yX ss 1 w=i:=by
 have app:∀(w:List Nat) (i c:Nat),yX ss i (w++[c])=qp ss (yX ss i w) c:=by
  intro w
  induction w with
  | nil=>intro i c;rfl
  | cons a w ih=>intro i c;exact ih _ _
 intro n
 induction n with
 | zero=>intro i h1 h2;omega
 | succ n ih=>
  intro i h1 h2 hi;by_cases e:i=1
  .exact⟨[],fun c hc=>by simp at hc,e.symm⟩
  .obtain⟨j,c,h3,h4,h5,h6⟩:=h.fr i (by omega) hi;obtain⟨w,h7,h8⟩:=ih j (by omega) h3 (by omega);refine⟨w++[c],fun x hx=>?_,by rw [app,h8,h6]⟩;rcases ma_.1 hx with g | g
   .exact h7 x g
   .rw [List.mem_singleton.1 g];exact h5
end Pu
namespace Pu
def Xc (K:List aA) (k c:Nat):Nat:=match K[k]? with
 | some x=>x.longer.getD c 0
 | none=>0
def yo (K:List aA) (k:Nat):Int:=match K[k]? with
 | some x=>x.rule
 | none=>-1
def LY (K:List aA):Nat->List Nat->Nat
 | k,[]=>k
 | k,c::w=>LY K (Xc K k c) w
theorem YK (K:List aA):∀(w:List Nat) (k c:Nat),LY K k (w++[c])=Xc K (LY K k w) c:=by
 intro w
 induction w with
 | nil=>intro k c;rfl
 | cons a w ih=>intro k c;exact ih _ _
theorem yC (ss:List aN):∀(w v:List Nat) (i:Nat),yX ss i (w++v)=yX ss (yX ss i w) v:=by
 intro w
 induction w with
 | nil=>intro v i;rfl
 | cons a w ih=>intro v i;exact ih _ _
def Bq (w:List Nat):Prop:=∀c∈w,c<256
theorem Bq.append {w v:List Nat} (h:Bq w) (h':Bq v):Bq (w++v):=fun c hc=>by
 rcases ma_.1 hc with g | g
 .exact h c g
 .exact h' c g
theorem Mx (ss:List aN) (rs:List Int) (kinds:List Nat) (n s:Nat) (hs:s<n):(fM ss rs kinds n).kinds.getD s 0<=s:=by
 induction n with
 | zero=>omega
 | succ n ih=>
  rw [rH];unfold Eg;have hok:=uA ss rs kinds n;have hle:=AF ss rs kinds n (fM ss rs kinds n).firsts;by_cases c:s<n
  .rw [zy _ _ _ (by rw [hok.1];exact c)];exact ih c
  .have e:s=n:=by omega
   subst e;have:=zx (fM ss rs kinds s).kinds (iA ss rs kinds s (fM ss rs kinds s).firsts) 0;rw [hok.1] at this;rw [this];omega
theorem Wn (ss:List aN) (rs:List Int):∀(f:Nat) (q:gG),(f=0->∀s,s<ss.length->q.kinds.getD s 0<=s)->∀s,s<ss.length->(ny ss rs f q).kinds.getD s 0<=s:=by
 intro f
 induction f with
 | zero=>intro q h;exact h rfl
 | succ f ih=>
  intro q _ s hs;unfold ny;split
  .exact Mx ss rs _ _ s hs
  .exact ih _ (fun _ s hs=>Mx ss rs _ _ s hs) s hs
def OnW (ls:List aC) (mode:Int) (w:List Nat):Prop:=∃v:List Nat,v≠[]/\Bq v/\∃(i:Nat) (x:aC),ls[i]?=some x/\x.mode=mode/\M x.re (w++v)
structure wE (ls:List aC) (mode:Int) (K:List aA):Prop where
 ok:Di ls.length K
 lost:K.length<=1->∀w,Bq w->w≠[]->∀(i:Nat) (x:aC),ls[i]?=some x->x.mode=mode->¬M x.re w
 lt:∀w,Bq w->2<=K.length->LY K 1 w<K.length
 none:2<=K.length->yo K 1=-1
 rule:∀w,Bq w->2<=K.length->w≠[]->oH ls mode w (yo K (LY K 1 w))
 on:∀w,Bq w->2<=K.length->((∃c,c<256/\Xc K (LY K 1 w) c≠0)↔OnW ls mode w)
 zero:∀c,Xc K 0 c=0
 rule0:yo K 0=-1
section
variable {ls:List aC} {q:List aD × List aJ} {mode:Int} {ss:List aN}
theorem Bh (lp:List aD) (hs:s<ss.length):(dE lp ss).getD s 0=fU lp (qK ss s):=by unfold dE qK;rw [gd_,gm_,gg_ hs];rfl
theorem tL (lp:List aD):fU lp []=-1:=by
 rcases uU [] lp 0 with ⟨h,_⟩ | ⟨i,x,_,_,h3,_⟩
 .exact h
 .rw [AU] at h3;cases h3
theorem oH.none {w:List Nat} {r:Int} (h:oH ls mode w r) (hr:r=-1) (i:Nat) (x:aC) (hi:ls[i]?=some x) (hm:x.mode=mode):¬M x.re w:=by
 rcases h with ⟨_,h⟩ | ⟨j,y,h1,_⟩
 .exact h i x hi hm
 .omega
theorem oH.some {w:List Nat} {r:Int} (h:oH ls mode w r) (hr:r≠-1):∃(i:Nat) (x:aC),ls[i]?=some x/\x.mode=mode/\M x.re w:=by
 rcases h with ⟨h,_⟩ | ⟨j,y,_,h2,h3,h4,_⟩
 .exact absurd h hr
 .exact⟨j,y,h2,h3,h4⟩
theorem PQ (hL:Br ls q) (h:Xr q.2 (jG q.1 mode) ss) (hl:ss.length<=42):wE ls mode (jI q.1 ss):=by
 have hok:=Zh q.1 ss (by have:=h.two;omega) hl;rw [hL.n] at hok;have hdone:=QR (rs:=dE q.1 ss) h.lt (by have:=h.two;omega);have hsrt:=IJ ss (dE q.1 ss);have hle:=Wn ss (dE q.1 ss) (ss.length+1) ⟨List.replicate ss.length 0,[]⟩ (fun e=>by omega);unfold jI at hok |-
 have hle:∀s,s<ss.length->(nN ss (dE q.1 ss)).kinds.getD s 0<=s:=hle;generalize nN ss (dE q.1 ss)=z at *;generalize hK:z.firsts.map (qo (dE q.1 ss) ss z)=K at *;have two:=h.two;have kd0:z.kinds.getD 0 0=0:=by have:=hle 0 (by omega);omega
 have p0:qK ss 0=[]:=by unfold qK;rw [h.z0]
 have ahb:∀s,s<ss.length->z.kinds.getD s 0<K.length:=fun s hs=>by rw [<-hK,lm_];rw [gd_,gg_ (by rw [hsrt.kinds];exact hs)];exact hsrt.kind _ (List.getElem_mem _)
 have first:∀s,s<ss.length->∃o,o<ss.length/\K[z.kinds.getD s 0]?=some (qo (dE q.1 ss) ss z o)/\z.kinds.getD o 0=z.kinds.getD s 0:=fun s hs=>by obtain⟨kinds,hf,_⟩:=hdone.fin;obtain⟨o,h1,_⟩:=hf.own s hs;have:=hf.self _ o h1;refine⟨o,this.1,?_,this.2⟩;rw [<-hK,gm_,h1];rfl
 have Zj:∀s,s<ss.length->yo K (z.kinds.getD s 0)=fU q.1 (qK ss s):=fun s hs=>by
  obtain⟨o,h1,h2,h3⟩:=first s hs
  unfold yo;rw [h2];show (dE q.1 ss).getD o 0=_;rw [(hdone.Un h.lt h1 hs h3).1,Bh q.1 hs]
 have klg:∀s c,s<ss.length->c<256->Xc K (z.kinds.getD s 0) c=z.kinds.getD (qp ss s c) 0:=fun s c hs hc=>by
  obtain⟨o,h1,h2,h3⟩:=first s hs
  unfold Xc;rw [h2];show ((List.range 256).map (fun b=>z.kinds.getD (qp ss o b) 0)).getD c 0=_;rw [gd_,gm_,List.getElem?_range hc];exact (hdone.Un h.lt h1 hs h3).2 c hc
 have go0:∀v,yX ss 0 v=0:=fun v=>by
  induction v with
  | nil=>rfl
  | cons c v ih=>
   unfold yX;have l0:qp ss 0 c=0:=by unfold qp;rw [h.z0];show jU.getD c 0=0;unfold jU;rw [gd_,List.getElem?_replicate];split <;> rfl
   rw [l0];exact ih
 have aY:(dE q.1 ss).getD 0 0=-1:=by rw [Bh q.1 (by omega),p0,tL]
 have UZ:∀w,Bq w->yX ss 1 w<ss.length/\qK ss (yX ss 1 w)=Fw q mode w:=h.go
 have MV:∀w,Bq w->(z.kinds.getD (yX ss 1 w) 0=0↔∀v,Bq v->fU q.1 (Fw q mode (w++v))=-1):=fun w hw=>by
  have e:=hdone.eqv h.lt (s:=yX ss 1 w) (t:=0) (UZ w hw).1 (by omega);rw [kd0] at e;rw [e];have hv:∀v,Bq v->((dE q.1 ss).getD (yX ss (yX ss 1 w) v) 0=(dE q.1 ss).getD (yX ss 0 v) 0↔fU q.1 (Fw q mode (w++v))=-1):=fun v hv=>by have g:=UZ (w++v) (hw.append hv);rw [go0,aY,<-yC,Bh q.1 g.1,g.2]
  exact⟨fun h1 v hv'=>(hv v hv').1 (h1 v hv'),fun h1 v hv'=>(hv v hv').2 (h1 v hv')⟩
 have ahe:z.kinds.getD 1 0=0->K.length<=1:=fun e=>by
  have agp:∀s,s<ss.length->z.kinds.getD s 0=0:=fun s hs=>by
   by_cases c:s=0
   .rw [c];exact kd0
   .obtain⟨w,hw,g⟩:=h.word s s di (by omega) hs;rw [<-g];refine (MV w hw).2 (fun v hv=>?_);have:=(MV [] (fun c hc=>by simp at hc)).1 e (w++v) (Bq.append hw hv);exact this
  rw [<-hK,lm_];apply Classical.byContradiction;intro hc;obtain⟨kinds,hf,_⟩:=hdone.fin;have h1:z.firsts[1]?=some (z.firsts[1]'(by omega)):=gg_ (by omega);have:=hf.self 1 _ h1;have:=agp _ this.1;omega
 have one:2<=K.length->z.kinds.getD 1 0=1:=fun hk=>by
  have:=hle 1 (by omega);have:z.kinds.getD 1 0≠0:=fun e=>by have:=ahe e;omega
  omega
 have go:2<=K.length->∀w,Bq w->LY K 1 w=z.kinds.getD (yX ss 1 w) 0:=fun hk=>by
  have key:∀(w:List Nat) (s:Nat),s<ss.length->Bq w->LY K (z.kinds.getD s 0) w=z.kinds.getD (yX ss s w) 0:=by
   intro w
   induction w with
   | nil=>intro s _ _;rfl
   | cons c w ih=>intro s hs hw;unfold LY yX;rw [klg s c hs (hw c (ms_ ..))];exact ih _ (qI h.lt hs c) (fun x hx=>hw x (mc_ _ hx))
  intro w hw;have:=key w 1 (by omega) hw;rw [one hk] at this;exact this
 refine⟨hok,fun hk w hw hne i x hi hm=>?_,fun w hw hk=>?_,fun hk=>?_,fun w hw hk hne=>?_,fun w hw hk=>?_,fun c=>?_,?_⟩
 .have e:z.kinds.getD 1 0=0:=by have:=ahb 1 (by omega);omega
  have:=(MV [] (fun c hc=>by simp at hc)).1 e w hw;exact (pK hL mode w hne).none this i x hi hm
 .rw [go hk w hw];exact ahb _ (UZ w hw).1
 .have:=Zj 1 (by omega);rw [one hk,h.p1,tL] at this;exact this
 .rw [go hk w hw,Zj _ (UZ w hw).1,(UZ w hw).2];exact pK hL mode w hne
 .have hg:=UZ w hw;constructor
  .rintro ⟨c,hc,hz⟩;rw [go hk w hw,klg _ c hg.1 hc] at hz;have hw1:Bq (w++[c]):=Bq.append hw (fun x hx=>by rw [List.mem_singleton.1 hx];exact hc);have e:yX ss 1 (w++[c])=qp ss (yX ss 1 w) c:=by rw [yC];rfl
   rw [<-e] at hz;have hex:∃v,Bq v/\fU q.1 (Fw q mode (w++[c]++v))≠-1:=by apply Classical.byContradiction;intro hno;refine hz ((MV _ hw1).2 (fun v hv=>?_));apply Classical.byContradiction;intro hne;exact hno ⟨v,hv,hne⟩
   obtain⟨v,hv,hne⟩:=hex;obtain⟨i,x,g1,g2,g3⟩:=(pK hL mode (w++[c]++v) (by simp)).some hne;refine⟨c::v,by simp,fun x hx=>?_,i,x,g1,g2,by simpa using g3⟩;rcases mm_.1 hx with g | g
   .rw [g];exact hc
   .exact hv x g
  .rintro ⟨v,hne,hv,i,x,g1,g2,g3⟩
   cases v with
   | nil=>exact absurd rfl hne
   | cons c v=>
    have hc:=hv c (ms_ ..);have hv':Bq v:=fun x hx=>hv x (mc_ _ hx)
    refine⟨c,hc,?_⟩;rw [go hk w hw,klg _ c hg.1 hc];have hw1:Bq (w++[c]):=Bq.append hw (fun x hx=>by rw [List.mem_singleton.1 hx];exact hc);have e:yX ss 1 (w++[c])=qp ss (yX ss 1 w) c:=by rw [yC];rfl
    rw [<-e];intro hz;have:=(MV _ hw1).1 hz v hv';have hsp:=pK hL mode (w++[c]++v) (by simp);exact hsp.none this i x g1 g2 (by simpa using g3)
 .by_cases hc:c<256
  .have:=klg 0 c (by omega) hc;rw [kd0] at this;have l0:qp ss 0 c=0:=go0 [c];rw [this,l0,kd0]
  .unfold Xc
   cases hk:K[0]? with
   | none=>rfl
   | some k=>have hl:=(hok.2 k (mg_ hk)).2.1;show k.longer.getD c 0=0;rw [gd_,gn_ (by omega)];rfl
 .have:=Zj 0 (by omega);rw [kd0,p0,tL] at this;exact this
end
end Pu
namespace Pu
def RK (K:List aA) (w:List Nat):Int:=if K.length<=1 then -1 else yo K (LY K 1 w)
def OnK (K:List aA) (w:List Nat):Prop:=¬K.length<=1/\∃c,c<256/\Xc K (LY K 1 w) c≠0
def wd (s:Y_) (p n:Nat):List Nat:=(List.range n).map (fun i=>(bt s (p+i)).toNat)
theorem acX (s:Y_) (p n:Nat):wd s p (n+1)=wd s p n++[(bt s (p+n)).toNat]:=by unfold wd;rw [List.range_succ,List.map_append];rfl
theorem ae8 (s:Y_) (p n:Nat):(wd s p n).length=n:=by simp [wd]
theorem aaB (s:Y_) (p n:Nat):Bq (wd s p n):=fun c hc=>by obtain⟨i,_,rfl⟩:=List.mem_map.1 hc;have:=iC s (p+i);omega
def mk (K:List aA) (s:Y_) (p:Nat):Nat->Int × Int
 | 0=>(0,0)
 | n+1=>if 0<n/\RK K (wd s p n)≠-1 then (RK K (wd s p n),(n:Int)) else mk K s p n
theorem Ti (K:List aA) (s:Y_) (p n:Nat):mk K s p (n+1)=if 0<n/\RK K (wd s p n)≠-1 then (RK K (wd s p n),(n:Int)) else mk K s p n:=rfl
def Sk (_E:bH) (C:bI) (_K:List aA) (n:Nat) (m:Int × Int) (steps ins c:Int):bI:={ C with steps:=steps,ins:=ins,c:=c,looked:=(n:Int),rule:=m.1,marked:=m.2 }
def AtK (E:bH) (C:bI) (K:List aA) (st:List Nat) (n:Nat) (D:bI):Prop:=∃(steps c:Int) (i:Nat),D=Sk E C K n (mk K E.s C.pos.toNat n) steps (i:Int) c/\
 ((∃k,¬K.length<=1/\K[LY K 1 (wd E.s C.pos.toNat n)]?=some k/\LY K 1 (wd E.s C.pos.toNat n)≠0/\Blo E.p.code st i k)\/
  ((K.length<=1\/LY K 1 (wd E.s C.pos.toNat n)=0)/\E.p.code[i]?=some ⟨5,0,0,0⟩))
structure ze (E:bH) (C:bI):Prop where
 err:C.err=0
 pos:0<=C.pos/\C.pos<E.s.size
 looked:C.looked=0
 rule:C.rule=0
 marked:C.marked=0
structure KOK (K:List aA):Prop where
 len:∀k∈K,k.longer.length=256/\∀b,k.longer.getD b 0<K.length
 zero:∀c,Xc K 0 c=0
 none:2<=K.length->yo K 1=-1/\yo K 0=-1
theorem Sd {l:List dY} {x:dY} (h:l[i]?=some x):aO l i=x:=by unfold aO;rw [gd_,h];rfl
section
variable {E:bH} {C:bI} {K:List aA} {st:List Nat}
theorem ahd {r:Int} (hi:D.ins=(i:Int)) (hx:E.p.code[i]?=some ⟨1,r,0,0⟩):look E D=.go (if 0<D.looked then { D with steps:=D.steps+1,ins:=D.ins+1,rule:=r,marked:=D.looked } else { D with steps:=D.steps+1,ins:=D.ins+1 }):=by unfold look;rw [hi,tn_,Sd hx];simp only [if_pos]
theorem adx (hi:D.ins=(i:Int)) (hx:E.p.code[i]?=some ⟨5,0,0,0⟩):look E D=.stop { D with steps:=D.steps+1,ins:=D.ins+1 } 0:=by unfold look;rw [hi,tn_,Sd hx];rfl
theorem adw (hi:D.ins=(i:Int)) (hx:E.p.code[i]?=some ⟨2,0,0,0⟩):look E D=if (E.s.size:Int)<=D.pos+D.looked then (if E.ended then .stop { D with steps:=D.steps+1,ins:=D.ins+1 } 0 else .wait)
  else if E.most<=D.looked then .stop { D with steps:=D.steps+1,ins:=D.ins+1 } 5
  else .go { D with steps:=D.steps+1,ins:=D.ins+1,c:=bt E.s (D.pos+D.looked).toNat,looked:=D.looked+1 }:=by
 unfold look;rw [hi,tn_,Sd hx];rfl
theorem Zr {a b t:Int} (hi:D.ins=(i:Int)) (hx:E.p.code[i]?=some ⟨3,a,b,t⟩):look E D=.go (if a<=D.c/\D.c<=b then { D with steps:=D.steps+1,ins:=t } else { D with steps:=D.steps+1,ins:=D.ins+1 }):=by unfold look;rw [hi,tn_,Sd hx];rfl
theorem Ey {F:bI} (he:D.err=0) (hp:D.pos<E.s.size) (h:look E D=.go F):AY E D=some F:=by unfold AY;rw [if_neg (by omega),h]
theorem Zy {F:bI} {e:Int} (he:D.err=0) (hp:D.pos<E.s.size) (h:look E D=.stop F e):AY E D=some (take E F e):=by unfold AY;rw [if_neg (by omega),h]
theorem Zz (h:look E D=.wait):AY E D=none:=by unfold AY;rw [h];split <;> rfl
theorem abZ (hF:ze E C) {l:List Nat} (c:Nat) {m:Int × Int}:∀(ws:List dY) (i:Nat) (steps:Int),(∀x∈ws,Way l x)->(∀(j:Nat) (x:dY),ws[j]?=some x->E.p.code[i+j]?=some (kT st x))->
  (∃x∈ws,x.a<=(c:Int)/\(c:Int)<=x.b)->∃FK,qF E (Sk E C K n m steps (i:Int) (c:Int)) (Sk E C K n m FK ((st.getD (l.getD c 0) 0:Nat):Int) (c:Int)):=by
 intro ws
 induction ws with
 | nil=>intro i steps _ _ h;obtain⟨x,hx,_⟩:=h;simp at hx
 | cons x ws ih=>
  intro i steps hw hc hex;obtain⟨a,b,h1,h2,rfl,h4,h5⟩:=hw x (ms_ ..);have hx:=hc 0 _ rfl;rw [Nat.add_zero] at hx;have hlk:kT st ⟨3,(a:Int),(b:Int),((l.getD a 0:Nat):Int)⟩=⟨3,(a:Int),(b:Int),((st.getD (l.getD a 0) 0:Nat):Int)⟩:=by unfold kT;rw [if_pos rfl];simp
  rw [hlk] at hx;by_cases hin:a<=c/\c<=b
  .refine⟨steps+1,.step (.refl _) (Ey hF.err hF.pos.2 ?_)⟩;rw [Zr (D:=Sk E C K n m steps (i:Int) (c:Int)) rfl hx];have:(a:Int)<=(Sk E C K n m steps (i:Int) (c:Int)).c/\(Sk E C K n m steps (i:Int) (c:Int)).c<=(b:Int):=⟨by show (a:Int)<=c;omega,by show (c:Int)<=b;omega⟩;rw [if_pos this,h5 c hin.1 hin.2];rfl
  .obtain⟨s',hr⟩:=ih (i+1) (steps+1) (fun y hy=>hw y (mc_ _ hy)) (fun j y hj=>by
    have:=hc (j+1) y (by rw [cs_];exact hj);rw [show i+1+j=i+(j+1) by omega]
    exact this) (by
    obtain⟨y,hy,hy2⟩:=hex;rcases mm_.1 hy with e | e
    .exfalso;rw [e] at hy2;have h6:(a:Int)<=c:=hy2.1;have h7:(c:Int)<=b:=hy2.2;omega
    .exact⟨y,e,hy2⟩)
   refine⟨s',qF.trans (.step (.refl _) (Ey hF.err hF.pos.2 (F:=Sk E C K n m (steps+1) ((i+1:Nat):Int) (c:Int)) ?_)) hr⟩;rw [Zr (D:=Sk E C K n m steps (i:Int) (c:Int)) rfl hx];have:¬((a:Int)<=(Sk E C K n m steps (i:Int) (c:Int)).c/\(Sk E C K n m steps (i:Int) (c:Int)).c<=(b:Int)):=fun h=>by have h6:(a:Int)<=c:=h.1;have h7:(c:Int)<=b:=h.2;omega
   rw [if_neg this];rfl
theorem Y5 (hF:ze E C) {l:List Nat} (c:Nat) (h0:l.getD c 0=0) {m:Int × Int}:∀(ws:List dY) (i:Nat) (steps:Int),(∀x∈ws,Way l x)->(∀(j:Nat) (x:dY),ws[j]?=some x->E.p.code[i+j]?=some (kT st x))->
  ∃FK,qF E (Sk E C K n m steps (i:Int) (c:Int)) (Sk E C K n m FK ((i+ws.length:Nat):Int) (c:Int)):=by
 intro ws
 induction ws with
 | nil=>intro i steps _ _;exact⟨steps,.refl _⟩
 | cons x ws ih=>
  intro i steps hw hc;obtain⟨a,b,h1,h2,rfl,h4,h5⟩:=hw x (ms_ ..);have hx:=hc 0 _ rfl;rw [Nat.add_zero] at hx;have hlk:kT st ⟨3,(a:Int),(b:Int),((l.getD a 0:Nat):Int)⟩=⟨3,(a:Int),(b:Int),((st.getD (l.getD a 0) 0:Nat):Int)⟩:=by unfold kT;rw [if_pos rfl];simp
  rw [hlk] at hx
  obtain⟨s',hr⟩:=ih (i+1) (steps+1) (fun y hy=>hw y (mc_ _ hy)) (fun j y hj=>by
   have:=hc (j+1) y (by rw [cs_];exact hj);rw [show i+1+j=i+(j+1) by omega]
   exact this)
  refine⟨s',qF.trans (.step (.refl _) (Ey hF.err hF.pos.2 (F:=Sk E C K n m (steps+1) ((i+1:Nat):Int) (c:Int)) ?_)) ?_⟩
  .rw [Zr (D:=Sk E C K n m steps (i:Int) (c:Int)) rfl hx];have:¬((a:Int)<=(Sk E C K n m steps (i:Int) (c:Int)).c/\(Sk E C K n m steps (i:Int) (c:Int)).c<=(b:Int)):=fun h=>by have h6:(a:Int)<=c:=h.1;have h7:(c:Int)<=b:=h.2;have:=h5 c (by omega) (by omega);omega
   rw [if_neg this];rfl
  .rw [show i+(⟨3,(a:Int),(b:Int),((l.getD a 0:Nat):Int)⟩::ws:List dY).length=i+1+ws.length by rw [lc_];omega];exact hr
theorem Na (hF:ze E C) (hK:KOK K) {k:aA} {steps c:Int} (h1:¬K.length<=1) (hk:K[LY K 1 (wd E.s C.pos.toNat n)]?=some k) (hb:Blo E.p.code st i k) :
  ∃FK,qF E (Sk E C K n (mk K E.s C.pos.toNat n) steps (i:Int) c) (Sk E C K n (mk K E.s C.pos.toNat (n+1)) FK ((i+(if k.rule=-1 then 0 else 1):Nat):Int) c):=by
 have hr:RK K (wd E.s C.pos.toNat n)=k.rule:=by unfold RK yo;rw [if_neg h1,hk]
 rw [Ti,hr];by_cases c1:k.rule=-1
 .rw [if_neg (fun h=>h.2 c1),if_pos c1];exact⟨steps,.refl _⟩
 .rw [if_neg c1];have h0:(dL k)[0]?=some ⟨1,k.rule,0,0⟩:=by unfold dL;rw [if_neg c1];rfl
  have hx:=hb 0 _ h0;rw [Nat.add_zero] at hx;refine⟨steps+1,.step (.refl _) (Ey hF.err hF.pos.2 ?_)⟩;rw [ahd (D:=Sk E C K n (mk K E.s C.pos.toNat n) steps (i:Int) c) (r:=k.rule) rfl hx];by_cases hn:0<n
  .have:0<(Sk E C K n (mk K E.s C.pos.toNat n) steps (i:Int) c).looked:=by show (0:Int)<n;omega
   rw [if_pos this,if_pos ⟨hn,c1⟩];rfl
  .exfalso;have:n=0:=by omega
   subst this;have:=(hK.none (by omega)).1;unfold yo at this;have hk':K[1]?=some k:=hk;rw [hk'] at this;exact c1 this
theorem Om (l:List Nat):(iF l).length=0↔∀c,c<256->l.getD c 0=0:=by
 constructor
 .intro h c hc;apply Classical.byContradiction;intro h0;obtain⟨x,hx,_⟩:=Ga l c hc h0;have:=List.length_pos_of_mem hx;omega
 .intro h
  cases hw:iF l with
  | nil=>rfl
  | cons x r=>exfalso;obtain⟨a,b,h1,h2,_,h4,_⟩:=yN l x (by rw [hw];exact ms_ ..);exact h4 (h a (by omega))
theorem Er (k:aA):((iF k.longer).length=0->(dL k)[if k.rule=-1 then 0 else 1]?=some ⟨5,0,0,0⟩)/\
  ((iF k.longer).length≠0->(dL k)[if k.rule=-1 then 0 else 1]?=some ⟨2,0,0,0⟩/\(∀(j:Nat) (x:dY),(iF k.longer)[j]?=some x->(dL k)[(if k.rule=-1 then 0 else 1)+1+j]?=some x)/\(dL k)[(if k.rule=-1 then 0 else 1)+1+(iF k.longer).length]?=some ⟨5,0,0,0⟩):=by
 unfold dL;generalize iF k.longer=ws;refine⟨fun h=>?_,fun h=>?_⟩
 .rw [List.length_eq_zero_iff.1 h];by_cases c1:k.rule=-1 <;> simp [c1]
 .rw [if_neg h];by_cases c1:k.rule=-1
  .simp only [if_pos c1];refine⟨by simp,fun j x hj=>?_,?_⟩
   .have:=(ge_.1 hj).1;simp only [List.nil_append,List.cons_append,Nat.zero_add];rw [Nat.add_comm 1 j,cs_,al_ this];exact hj
   .simp only [List.nil_append,List.cons_append,Nat.zero_add];rw [Nat.add_comm 1 _,cs_,ar_ di];simp
  .simp only [if_neg c1];refine⟨by simp,fun j x hj=>?_,?_⟩
   .have:=(ge_.1 hj).1;simp only [List.nil_append,List.cons_append];rw [show 1+1+j=j+1+1 by omega,cs_,cs_,al_ this];exact hj
   .simp only [List.nil_append,List.cons_append];rw [show 1+1+ws.length=ws.length+1+1 by omega,cs_,cs_,ar_ di];simp
theorem R7 (hF:ze E C) (hK:KOK K) (h:AtK E C K st n D) (hon:OnK K (wd E.s C.pos.toNat n)) :
  ∃(steps c:Int) (i:Nat) (k:aA),qF E D (Sk E C K n (mk K E.s C.pos.toNat (n+1)) steps (i:Int) c)/\E.p.code[i]?=some ⟨2,0,0,0⟩/\K[LY K 1 (wd E.s C.pos.toNat n)]?=some k/\
   (∀(j:Nat) (x:dY),(iF k.longer)[j]?=some x->E.p.code[i+1+j]?=some (kT st x))/\E.p.code[i+1+(iF k.longer).length]?=some ⟨5,0,0,0⟩:=by
 obtain⟨steps,c,i,rfl,⟨k,h1,h2,h3,h4⟩ | ⟨h1,h2⟩⟩:=h
 .have hz:(iF k.longer).length≠0:=fun hz=>by obtain⟨_,c,hc,h0⟩:=hon;unfold Xc at h0;rw [h2] at h0;exact h0 ((Om _).1 hz c hc)
  obtain⟨s',hr⟩:=Na (st:=st) (steps:=steps) (c:=c) hF hK h1 h2 h4;obtain⟨p1,p2,p3⟩:=(Er k).2 hz;refine⟨s',c,_,k,hr,h4 _ _ p1,h2,fun j x hj=>?_,?_⟩
  .have:=h4 _ _ (p2 j x hj);rw [<-Nat.add_assoc,<-Nat.add_assoc] at this;exact this
  .have:=h4 _ _ p3;rw [<-Nat.add_assoc,<-Nat.add_assoc] at this;exact this
 .exfalso;obtain⟨g1,c,hc,h0⟩:=hon;rcases h1 with h1 | h1
  .exact g1 h1
  .rw [h1,hK.zero] at h0;exact h0 rfl
structure XM (E:bH) (K:List aA) (st:List Nat):Prop where
 at_:∀(j:Nat) (k:aA),K[j]?=some k->1<=j->∃s,st[j]?=some s/\Blo E.p.code st s k
theorem agq (hF:ze E C) (hK:KOK K) (hS:XM E K st) (h:AtK E C K st n D) (hon:OnK K (wd E.s C.pos.toNat n)) (hs:C.pos+n<E.s.size) (hm:(n:Int)<E.most) :
  ∃D',qF E D D'/\AtK E C K st (n+1) D':=by
 obtain⟨s',c0,i,k,hr,hx,hk,hw,hst⟩:=R7 hF hK h hon;have bd:=iC E.s (C.pos.toNat+n);have ajN:(C.pos+(n:Int)).toNat=C.pos.toNat+n:=by have:=hF.pos;omega
 have hkl:LY K 1 (wd E.s C.pos.toNat (n+1))=k.longer.getD (bt E.s (C.pos.toNat+n)).toNat 0:=by rw [acX,YK];unfold Xc;rw [hk]
 have step1:qF E D (Sk E C K (n+1) (mk K E.s C.pos.toNat (n+1)) (s'+1) ((i+1:Nat):Int) (((bt E.s (C.pos.toNat+n)).toNat:Nat):Int)):=by
  refine .step hr (Ey hF.err hF.pos.2 ?_);rw [adw (D:=Sk E C K n (mk K E.s C.pos.toNat (n+1)) s' (i:Int) c0) rfl hx];have h1:¬(E.s.size:Int)<=(Sk E C K n (mk K E.s C.pos.toNat (n+1)) s' (i:Int) c0).pos+(Sk E C K n (mk K E.s C.pos.toNat (n+1)) s' (i:Int) c0).looked:=by show ¬(E.s.size:Int)<=C.pos+n;omega
  have h2:¬E.most<=(Sk E C K n (mk K E.s C.pos.toNat (n+1)) s' (i:Int) c0).looked:=by show ¬E.most<=(n:Int);omega
  rw [if_neg h1,if_neg h2];have h3:bt E.s ((Sk E C K n (mk K E.s C.pos.toNat (n+1)) s' (i:Int) c0).pos+(Sk E C K n (mk K E.s C.pos.toNat (n+1)) s' (i:Int) c0).looked).toNat=(((bt E.s (C.pos.toNat+n)).toNat:Nat):Int):=by show bt E.s (C.pos+(n:Int)).toNat=_;rw [ajN];omega
  rw [h3];rfl
 generalize hcn:(bt E.s (C.pos.toNat+n)).toNat=cn at *;have cl:cn<256:=by omega
 have hws:=yN k.longer;by_cases h0:k.longer.getD cn 0=0
 .obtain⟨s2,hr2⟩:=Y5 (K:=K) (st:=st) (n:=n+1) (m:=mk K E.s C.pos.toNat (n+1)) hF cn h0 (iF k.longer) (i+1) (s'+1) hws hw;refine⟨_,step1.trans hr2,s2,_,_,rfl,.inr ⟨.inr (by rw [hkl];exact h0),hst⟩⟩
 .obtain⟨s2,hr2⟩:=abZ (K:=K) (st:=st) (n:=n+1) (m:=mk K E.s C.pos.toNat (n+1)) hF cn (iF k.longer) (i+1) (s'+1) hws hw (Ga _ cn cl h0);have hlt:k.longer.getD cn 0<K.length:=(hK.len k (mg_ hk)).2 cn;obtain⟨s,hs1,hs2⟩:=hS.at_ _ _ (gg_ hlt) (by omega);have est:st.getD (k.longer.getD cn 0) 0=s:=by rw [gd_ (l:=st),hs1];rfl
  rw [est] at hr2;refine⟨_,step1.trans hr2,s2,_,s,rfl,.inl ⟨_,hon.1,by rw [hkl];exact gg_ hlt,by rw [hkl];exact h0,hs2⟩⟩
theorem Ya (hF:ze E C) {e:Nat} (hL:OP E.p.code e K) (hi:C.ins=(e:Int)):∃st,XM E K st/\AtK E C K st 0 C:=by
 have hC:C=Sk E C K 0 (mk K E.s C.pos.toNat 0) C.steps (e:Int) C.c:=by
  unfold Sk mk;cases C;have:=hF.looked;have:=hF.rule;have:=hF.marked
  simp_all
 rcases hL with ⟨h1,h2⟩ | ⟨h1,st,h2,h3,h4⟩
 .refine⟨[],⟨fun j k hj h=>?_⟩,C.steps,C.c,e,hC,.inr ⟨.inl h1,h2⟩⟩;have:=(ge_.1 hj).1;omega
 .have hk:K[1]?=some (K[1]'(by omega)):=gg_ (by omega);obtain⟨s,hs1,hs2⟩:=h4 1 _ hk di;rw [h3] at hs1;have:e=s:=oi_ hs1;subst this;exact⟨st,⟨h4⟩,C.steps,C.c,e,hC,.inl ⟨_,by omega,hk,by show (1:Nat)≠0;omega,hs2⟩⟩
end
end Pu
namespace Pu
def oh (all:List aC):List (List aA):=(List.range (aV all)).map (fun j=>jI (cB all).1 (fZ all j))
def jD (ls:List aD):List mJ:=ls.map (fun x=>⟨x.emit,x.act,x.md⟩)
def lS (all:List aC):oC:=⟨(tN (oh all)).1,jD (cB all).1,(tN (oh all)).2⟩
theorem aet (h:Int) (x:aD):h<=xL h x/\x.mode<=xL h x/\x.md<=xL h x:=by unfold xL;split <;> split <;> (first | (split <;> omega) | omega)
theorem YT:∀(ls:List aD) (h:Int),h<=ls.foldl xL h/\∀x∈ls,x.mode<=ls.foldl xL h/\x.md<=ls.foldl xL h:=by
 intro ls
 induction ls with
 | nil=>intro h;exact⟨Int.le_refl _,fun x hx=>by simp at hx⟩
 | cons y ls ih=>
  intro h;have h1:=aet h y;have h2:=ih (xL h y);refine⟨?_,fun x hx=>?_⟩
  .show h<=ls.foldl xL (xL h y);omega
  .show x.mode<=ls.foldl xL (xL h y)/\x.md<=ls.foldl xL (xL h y);rcases mm_.1 hx with e | e
   .subst e;omega
   .exact h2.2 x e
section
variable {s:Y_} {all:List aC}
theorem ahf {y:aD} (hy:y∈(cB all).1):∃x pt,x∈all/\y=x.lp pt:=by
 obtain⟨k,hk⟩:=gf_ hy;have kl:k<all.length:=by rw [<-(iV all).n];exact (ge_.1 hk).1
 obtain⟨pt,h1,_⟩:=qh all (gg_ kl);rw [hk] at h1;exact⟨_,pt,List.getElem_mem kl,oi_ h1⟩
theorem Fp (hL:sM s 0 [] all):sO (jD (cB all).1) (aV all)/\(jD (cB all).1).length=all.length:=by
 have zl:=hL.zl;have nm:=EI zl.1;have kU:(jD (cB all).1).length=all.length:=by unfold jD;rw [lm_,(iV all).n]
 refine⟨⟨by omega,fun i hi=>?_⟩,kU⟩;have hi':i<(cB all).1.length:=by rw [(iV all).n];omega
 have e:rg (jD (cB all).1) i=⟨((cB all).1[i]).emit,((cB all).1[i]).act,((cB all).1[i]).md⟩:=by unfold rg jD;rw [gd_,gm_,gg_ hi'];rfl
 rw [e];have hm:=(YT (cB all).1 0).2 _ (List.getElem_mem hi');obtain⟨x,pt,hx,ey⟩:=ahf (List.getElem_mem hi');have hb:=zl.1 x hx;have hn:(aV all:Int)=(cB all).1.foldl xL 0+1:=nm.1.symm;unfold KE at hb;rw [ey] at hm |-
 simp only [aC.lp] at hm;unfold tJ;simp only [aC.lp];omega
theorem Fx (wT:∀j,j<aV all->(fZ all j).length<=42) {j:Nat} (hj:j<aV all):Xr (cB all).2 (jG (cB all).1 (j:Int)) (fZ all j):=Yy _ _ _ (wT j hj)
theorem ab6 {j:Nat} {K:List aA} (h:(oh all)[j]?=some K):j<aV all/\K=jI (cB all).1 (fZ all j):=by
 unfold oh at h;rw [gm_] at h;by_cases c:j<aV all
 .rw [List.getElem?_range c] at h;exact⟨c,(oi_ h).symm⟩
 .rw [gn_ (by rw [List.length_range];omega)] at h;cases h
theorem xO:(oh all).length=aV all:=by simp [oh]
theorem Et (wT:∀j,j<aV all->(fZ all j).length<=42) {j:Nat} {K:List aA} (h:(oh all)[j]?=some K):wE all (j:Int) K:=by have hk:=ab6 h;rw [hk.2];have hj:=hk.1;exact PQ (ls:=all) (q:=cB all) (mode:=(j:Int)) (ss:=fZ all j) (iV all) (Fx wT hj) (wT j hj)
theorem xH (wT:∀j,j<aV all->(fZ all j).length<=42):Laid all.length (oh all) (tN (oh all)):=
 MC _ _ (fun m hm=>by
  obtain⟨j,hj⟩:=gf_ hm
  exact (Et wT hj).ok)
theorem uS (hL:sM s 0 [] all) (wT:∀j,j<aV all->(fZ all j).length<=42):iy (lS all):=by have nm:=EI hL.zl.1;have hr:=Fp hL;exact (xH wT).right (by rw [xO];omega) (by rw [xO];exact hr.1) hr.2
theorem Xr.places {ps:List aJ} {bg:List Nat} {ss:List aN} (h:Xr ps bg ss) (hp:iU ps) (hb:sJ ps.length bg):∀x∈ss,x.places.length<=ps.length:=by
 intro x hx;obtain⟨i,hi⟩:=gf_ hx;have il:=(ge_.1 hi).1;have ep:qK ss i=x.places:=by unfold qK;rw [hi]
 rw [<-ep];by_cases c:2<=i
 .obtain⟨j,b,h1,h2,h3,h4⟩:=h.fr i c il;have:=(h.led j b h1 (by omega) h3 (.inl (by omega))).1;rw [h4] at this;rw [this];refine (sF ps b ?_).len;unfold Fe;split
  .exact hb
  .exact uN hp _
 .have:qK ss i=[]:=by
   by_cases e:i=0
   .rw [e];unfold qK;rw [h.z0]
   .have:i=1:=by omega
    rw [this];exact h.p1
  rw [this];exact zl_ _
theorem NV (hL:sM s 0 [] all) (wT:∀j,j<aV all->(fZ all j).length<=42) {j:Nat} (hj:j<aV all):∀x∈fZ all j,x.places.length<=s.size:=by
 have MP:=iV all;have hb:sJ (cB all).2.length (jG (cB all).1 (j:Int)):=by rw [MP.len];exact xG _ MP.pts
 intro x hx;have:=(Fx wT hj).places MP.ok hb x hx;rw [MP.len] at this;exact lt_ this hL.Jb
end
end Pu
end Go.Proofs.YtmccnmgaoppogaaGreat
