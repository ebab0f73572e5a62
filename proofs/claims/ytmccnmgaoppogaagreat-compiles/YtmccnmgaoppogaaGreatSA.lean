/-
 Plain mathematics: a program that runs over bytes, instruction by instruction; where it stands between two pieces of an input.
 Plain mathematics: what holds wherever a right program stands; an input that goes on changes nothing of what was done.
 A scanner in memory.
-/
import Derived.Test.YtmccnmgaoppogaaGreatMeA
import Derived.Lib.BufferOwn
namespace Go.Proofs.YtmccnmgaoppogaaGreat
namespace Pure
structure Tok where
 rule:Int
 pos:Int
 len:Int
 line:Int
 col:Int
structure Cfg where
 pos:Int
 line:Int
 col:Int
 mode:Int
 stk:List Int
 dep:Int
 steps:Int
 ins:Int
 c:Int
 looked:Int
 rule:Int
 marked:Int
 toks:List Tok
 err:Int
structure Env where
 p:Prg
 most:Int
 depth:Int
 s:ByteArray
 ended:Bool
inductive Lk where
 | wait:Lk
 | go:Cfg→Lk
 | stop:Cfg→Int→Lk
def look (E:Env) (C:Cfg):Lk:=
 let x:=cg E.p.code C.ins.toNat
 let D:Cfg:={ C with steps:=C.steps+1,ins:=C.ins+1 }
 if x.op=1 then .go (if 0<C.looked then { D with rule:=x.a,marked:=C.looked } else D)
 else if x.op=2 then
  if (E.s.size:Int)≤C.pos+C.looked then (if E.ended then .stop D 0 else .wait)
  else if E.most≤C.looked then .stop D 5
  else .go { D with c:=bt E.s (C.pos+C.looked).toNat,looked:=C.looked+1 }
 else if x.op=3 then .go (if x.a≤C.c∧C.c≤x.b then { D with ins:=x.to } else D)
 else if x.op=4 then .go { D with ins:=x.to }
 else .stop D 0
def adv (s:ByteArray) (a:Nat):Nat→Int × Int→Int × Int
 | 0,q=>q
 | n+1,q=>if bt s (a+n)=10 then ((adv s a n q).1+1,1) else ((adv s a n q).1,(adv s a n q).2+1)
def wrong (p:Prg) (depth:Int) (C:Cfg):Int:=
 if C.marked=0 then 4
 else if (rg p.rules C.rule.toNat).act=2∧depth≤C.dep then 6
 else if (rg p.rules C.rule.toNat).act=3∧C.dep=0 then 7
 else 0
def newMode (r:Rule) (C:Cfg):Int:=if r.act=1∨r.act=2 then r.mode else if r.act=3 then ig C.stk (C.dep-1).toNat else C.mode
def newStk (r:Rule) (C:Cfg):List Int:=if r.act=2 then C.stk.set C.dep.toNat C.mode else C.stk
def newDep (r:Rule) (C:Cfg):Int:=if r.act=2 then C.dep+1 else if r.act=3 then C.dep-1 else C.dep
def took (p:Prg) (s:ByteArray) (C:Cfg):Cfg:=
 let r:=rg p.rules C.rule.toNat
 { pos:=C.pos+C.marked,line:=(adv s C.pos.toNat C.marked.toNat (C.line,C.col)).1,col:=(adv s C.pos.toNat C.marked.toNat (C.line,C.col)).2,mode:=newMode r C,stk:=newStk r C,dep:=newDep r C,steps:=C.steps,ins:=ig p.ents (newMode r C).toNat,c:=0,looked:=0,rule:=0,marked:=0,toks:=if r.emit=1 then C.toks++[⟨C.rule,C.pos,C.marked,C.line,C.col⟩] else C.toks,err:=0 }
def take (E:Env) (C:Cfg) (e:Int):Cfg:=
 if e≠0 then { C with err:=e }
 else if wrong E.p E.depth C≠0 then { C with err:=wrong E.p E.depth C }
 else took E.p E.s C
def mic (E:Env) (C:Cfg):Option Cfg:=
 if C.err≠0∨(E.s.size:Int)≤C.pos then none
 else match look E C with
  | .wait=>none
  | .go D=>some D
  | .stop D e=>some (take E D e)
inductive Rch (E:Env):Cfg→Cfg→Prop where
 | refl (C:Cfg):Rch E C C
 | step {C D F:Cfg}:Rch E C D→mic E D=some F→Rch E C F
theorem Rch.trans {E:Env} {A B C:Cfg} (h:Rch E A B) (k:Rch E B C):Rch E A C:=by
 induction k with
 | refl=>exact h
 | step _ h2 ih=>exact .step ih h2
def Runs (E:Env) (C D:Cfg):Prop:=Rch E C D∧mic E D=none
theorem Rch.head {E:Env} {A C:Cfg} (h:Rch E A C):A=C∨∃B,mic E A=some B∧Rch E B C:=by
 induction h with
 | refl=>exact .inl rfl
 | step h1 h2 ih=>
  right;rcases ih with rfl | ⟨B,hb,hr⟩
  ·exact⟨_,h2,.refl _⟩
  ·exact⟨B,hb,.step hr h2⟩
theorem Rch.meets {E:Env} {A B C:Cfg} (h:Rch E A B) (k:Rch E A C):Rch E B C∨Rch E C B:=by
 induction h with
 | refl=>exact .inl k
 | step _ h2 ih=>
  rcases ih with h | h
  ·rcases h.head with rfl | ⟨X,hx,hr⟩
   ·exact .inr (.step (.refl _) h2)
   ·rw [h2] at hx;cases hx;exact .inl hr
  ·exact .inr (.step h h2)
theorem Rch.done {E:Env} {A B:Cfg} (h:Rch E A B) (hn:mic E A=none):A=B:=by
 rcases h.head with rfl | ⟨X,hx,_⟩
 ·rfl
 ·rw [hn] at hx;cases hx
theorem Runs.same {E:Env} {A B C:Cfg} (h:Runs E A B) (k:Runs E A C):B=C:=by
 rcases h.1.meets k.1 with r | r
 ·exact r.done h.2
 ·exact (r.done k.2).symm
theorem Runs.behind {E:Env} {A B C:Cfg} (h:Rch E A B) (k:Runs E B C):Runs E A C:=⟨h.trans k.1,k.2⟩
theorem mic_err {E:Env} {C:Cfg} (h:C.err≠0):mic E C=none:=by unfold mic;rw [if_pos (.inl h)]
def rk (rank:Nat→Nat) (n i:Nat):Nat:=((List.range n).filter (fun j=>decide (rank j<rank i))).length
theorem filter_le {α:Type} (p q:α→Bool) (l:List α) (h:∀x,x∈l→p x=true→q x=true):(l.filter p).length≤(l.filter q).length:=by
 induction l with
 | nil=>simp
 | cons x r ih=>
  have ih':=ih (fun y hy=>h y (List.mem_cons_of_mem _ hy));have hx:=h x List.mem_cons_self
  cases hp:p x with
  | true=>rw [List.filter_cons_of_pos hp,List.filter_cons_of_pos (hx hp)];simp;exact ih'
  | false=>
   rw [List.filter_cons_of_neg (by simp [hp])]
   cases hq:q x with
   | true=>rw [List.filter_cons_of_pos hq];simp;omega
   | false=>rw [List.filter_cons_of_neg (by simp [hq])];exact ih'
theorem filter_lt {α:Type} (p q:α→Bool) (l:List α) (h:∀x,x∈l→p x=true→q x=true) {y:α} (hy:y∈l) (hp:p y=false) (hq:q y=true):(l.filter p).length<(l.filter q).length:=by
 induction l with
 | nil=>simp at hy
 | cons x r ih=>
  have hr:∀z,z∈r→p z=true→q z=true:=fun z hz=>h z (List.mem_cons_of_mem _ hz)
  have hx:=h x List.mem_cons_self;rcases List.mem_cons.1 hy with rfl | hy
  ·rw [List.filter_cons_of_neg (by simp [hp]),List.filter_cons_of_pos hq]
   have:=filter_le p q r hr;simp;omega
  ·have ih':=ih hr hy
   cases hp':p x with
   | true=>rw [List.filter_cons_of_pos hp',List.filter_cons_of_pos (hx hp')];simp;exact ih'
   | false=>
    rw [List.filter_cons_of_neg (by simp [hp'])]
    cases hq':q x with
    | true=>rw [List.filter_cons_of_pos hq'];simp;omega
    | false=>rw [List.filter_cons_of_neg (by simp [hq'])];exact ih'
theorem rk_lt (rank:Nat→Nat) {n i j:Nat} (hj:j<n) (h:rank j<rank i):rk rank n j<rk rank n i:=by
 unfold rk
 refine filter_lt _ _ _ (fun x _ hx=>?_) (List.mem_range.2 hj) ?_ ?_
 ·simp at hx ⊢;omega
 ·simp
 ·simpa using h
theorem rk_bd (rank:Nat→Nat) {n i:Nat} (hi:i<n):rk rank n i<n:=by
 have h:rk rank n i<((List.range n).filter (fun _=>true)).length:=by
  unfold rk;refine filter_lt _ _ _ (fun _ _ _=>rfl) (List.mem_range.2 hi) ?_ rfl;simp
 have e:((List.range n).filter (fun _=>true)).length=n:=by
  rw [List.filter_eq_self.2 (fun _ _=>rfl),List.length_range]
 omega
theorem ranked {l:List Ins} (h:NoWay l) (ht:Tight l):∃f:Nat→Int,(∀i,i<l.length→0≤f i∧f i<l.length)∧∀i,i<l.length→∀j,j∈succ l i→f j<f i:=by
 obtain⟨rank,hr⟩:=h
 refine⟨fun i=>(rk rank l.length i:Int),fun i hi=>⟨Int.natCast_nonneg _,Int.ofNat_lt.2 (rk_bd rank hi)⟩,fun i hi j hj=>?_⟩
 have:=rk_lt rank (ht.lt hi hj) (hr i hi j hj)
 show (rk rank l.length j:Int)<(rk rank l.length i:Int)
 omega
end Pure
namespace Pure
structure Good (E:Env) (f:Nat→Int):Prop where
 right:RightP E.p
 most:1≤E.most∧E.most≤64
 depth:0≤E.depth∧E.depth≤8
 f0:∀i,i<E.p.code.length→0≤f i∧f i<E.p.code.length
 f1:∀i,i<E.p.code.length→∀j,j∈succ E.p.code i→f j<f i
def per (E:Env):Int:=(E.most+1)*E.p.code.length
structure Sta (E:Env) (f:Nat→Int) (C:Cfg):Prop where
 pos:0≤C.pos
 looked:0≤C.looked∧C.looked≤E.most
 within:C.pos+C.looked≤E.s.size
 marked:0≤C.marked∧C.marked≤C.looked
 ins:0≤C.ins∧C.ins≤E.p.code.length
 c:0≤C.c∧C.c≤255
 rule:0≤C.rule∧C.rule<E.p.rules.length
 mode:0≤C.mode∧C.mode<E.p.ents.length
 stk:C.stk.length=8∧∀i,i<8→0≤ig C.stk i∧ig C.stk i<E.p.ents.length
 dep:0≤C.dep∧C.dep≤E.depth
 line:1≤C.line∧C.line≤C.pos+1
 col:1≤C.col∧C.col≤C.pos+1
 steps:0≤C.steps∧C.steps≤C.pos*per E+(C.looked+1)*E.p.code.length
 live:C.err=0→C.ins<E.p.code.length∧C.steps+f C.ins.toNat+1≤C.pos*per E+(C.looked+1)*E.p.code.length
 err:0≤C.err∧C.err≤7
 toks:(C.toks.length:Int)≤C.pos
structure Held (E:Env) (C:Cfg):Prop where
 pos:0≤C.pos
 looked:0≤C.looked∧C.looked≤E.most
 within:C.pos+C.looked≤E.s.size
 marked:0≤C.marked∧C.marked≤C.looked
 ins:0≤C.ins∧C.ins≤E.p.code.length
 c:0≤C.c∧C.c≤255
 rule:0≤C.rule∧C.rule<E.p.rules.length
 mode:0≤C.mode∧C.mode<E.p.ents.length
 stk:C.stk.length=8∧∀i,i<8→0≤ig C.stk i∧ig C.stk i<E.p.ents.length
 dep:0≤C.dep∧C.dep≤E.depth
 line:1≤C.line∧C.line≤C.pos+1
 col:1≤C.col∧C.col≤C.pos+1
 steps:0≤C.steps∧C.steps≤C.pos*per E+(C.looked+1)*E.p.code.length
 err:C.err=0
 toks:(C.toks.length:Int)≤C.pos
theorem Good.insOK {E:Env} {f:Nat→Int} (g:Good E f) {i:Nat} (hi:i<E.p.code.length):InsOK E.p.rules.length E.p.code.length (cg E.p.code i):=g.right.2.2.1.2.1 i hi
theorem Good.next {E:Env} {f:Nat→Int} (g:Good E f) {i:Nat} (hi:i<E.p.code.length) (ho:(cg E.p.code i).op≠4∧(cg E.p.code i).op≠5):i+1<E.p.code.length:=by
 have:=g.right.2.2.1.2.2
 by_cases e:i=E.p.code.length-1
 ·rw [←e] at this;omega
 ·omega
theorem Good.n1 {E:Env} {f:Nat→Int} (g:Good E f):1≤E.p.code.length∧E.p.code.length≤50000:=g.right.2.2.1.1
theorem more_n (a n:Int):(a+1+1)*n=(a+1)*n+n:=by rw [Int.add_mul (a+1) 1 n,Int.one_mul]
theorem succ_a {l:List Ins} {i:Nat} (h:(cg l i).op=1∨(cg l i).op=3):i+1∈succ l i:=by
 unfold succ
 rw [List.mem_append]
 left
 unfold fst
 unfold cg at h
 rw [if_pos h]
 simp
theorem succ_b {l:List Ins} {i:Nat} (h:(cg l i).op=3∨(cg l i).op=4):(cg l i).to.toNat∈succ l i:=by
 unfold succ
 rw [List.mem_append]
 right
 unfold snd
 unfold cg at h ⊢
 rw [if_pos h]
 simp
theorem look_go {E:Env} {f:Nat→Int} (g:Good E f) {C D:Cfg} (h:Sta E f C) (he:C.err=0) (hl:look E C=.go D):Sta E f D∧D.err=0∧D.pos=C.pos∧D.steps=C.steps+1∧D.toks=C.toks:=by
 obtain⟨h1,h2⟩:=h.live he
 have h0:=h.ins
 have hi:C.ins.toNat<E.p.code.length:=by omega
 have hok:=g.insOK hi
 have nx:=g.next hi
 have fi:=g.f1 _ hi
 have p1:=h.pos
 have p2:=h.looked
 have p3:=h.within
 have p4:=h.marked
 have p5:=h.steps
 have sa:=fun q=>g.f1 _ hi _ (succ_a (l:=E.p.code) (i:=C.ins.toNat) q)
 have sb:=fun q=>g.f1 _ hi _ (succ_b (l:=E.p.code) (i:=C.ins.toNat) q)
 have f0:=g.f0 _ hi
 have e1:(C.ins+1).toNat=C.ins.toNat+1:=by omega
 unfold look at hl
 simp only at hl
 unfold InsOK at hok
 generalize cg E.p.code C.ins.toNat=x at *
 by_cases o1:x.op=1
 ·rw [if_pos o1] at hl
  have q1:=nx (by omega);have q2:=sa (.inl o1);split at hl
  ·cases hl
   exact⟨⟨h.pos,h.looked,h.within,⟨by show 0≤C.looked;omega,by show C.looked≤C.looked;omega⟩,⟨by show 0≤C.ins+1;omega,by show C.ins+1≤_;omega⟩,h.c,⟨by show 0≤x.a;omega,by show x.a<_;omega⟩,h.mode,h.stk,h.dep,h.line,h.col,
    ⟨by show 0≤C.steps+1;omega,by show C.steps+1≤C.pos*per E+(C.looked+1)*_;omega⟩,fun _=>⟨by show C.ins+1<_;omega,by show C.steps+1+f (C.ins+1).toNat+1≤C.pos*per E+(C.looked+1)*_;rw [e1];omega⟩,h.err,h.toks⟩,he,rfl,rfl,rfl⟩
  ·cases hl
   exact⟨⟨h.pos,h.looked,h.within,h.marked,⟨by show 0≤C.ins+1;omega,by show C.ins+1≤_;omega⟩,h.c,h.rule,h.mode,h.stk,h.dep,h.line,h.col,
    ⟨by show 0≤C.steps+1;omega,by show C.steps+1≤C.pos*per E+(C.looked+1)*_;omega⟩,fun _=>⟨by show C.ins+1<_;omega,by show C.steps+1+f (C.ins+1).toNat+1≤C.pos*per E+(C.looked+1)*_;rw [e1];omega⟩,h.err,h.toks⟩,he,rfl,rfl,rfl⟩
 rw [if_neg o1] at hl
 by_cases o2:x.op=2
 ·rw [if_pos o2] at hl
  have q1:=nx (by omega);have q2:=g.f0 _ q1;have q3:=more_n C.looked (E.p.code.length:Int);split at hl
  ·split at hl <;> cases hl
  ·split at hl
   ·cases hl
   ·cases hl
    have:=bt_bd E.s (C.pos+C.looked).toNat
    exact⟨⟨h.pos,⟨by show 0≤C.looked+1;omega,by show C.looked+1≤_;omega⟩,by show C.pos+(C.looked+1)≤_;omega,⟨h.marked.1,by show C.marked≤C.looked+1;omega⟩,⟨by show 0≤C.ins+1;omega,by show C.ins+1≤_;omega⟩,this,h.rule,h.mode,h.stk,h.dep,h.line,h.col,
     ⟨by show 0≤C.steps+1;omega,by show C.steps+1≤C.pos*per E+(C.looked+1+1)*_;omega⟩,fun _=>⟨by show C.ins+1<_;omega,by show C.steps+1+f (C.ins+1).toNat+1≤C.pos*per E+(C.looked+1+1)*_;rw [e1];omega⟩,h.err,h.toks⟩,he,rfl,rfl,rfl⟩
 rw [if_neg o2] at hl
 by_cases o3:x.op=3
 ·rw [if_pos o3] at hl
  have q1:=nx (by omega);have q2:=sa (.inr o3);have q3:=sb (.inl o3);split at hl
  ·cases hl
   exact⟨⟨h.pos,h.looked,h.within,h.marked,⟨by show 0≤x.to;omega,by show x.to≤_;omega⟩,h.c,h.rule,h.mode,h.stk,h.dep,h.line,h.col,
    ⟨by show 0≤C.steps+1;omega,by show C.steps+1≤C.pos*per E+(C.looked+1)*_;omega⟩,fun _=>⟨by show x.to<_;omega,by show C.steps+1+f x.to.toNat+1≤C.pos*per E+(C.looked+1)*_;omega⟩,h.err,h.toks⟩,he,rfl,rfl,rfl⟩
  ·cases hl
   exact⟨⟨h.pos,h.looked,h.within,h.marked,⟨by show 0≤C.ins+1;omega,by show C.ins+1≤_;omega⟩,h.c,h.rule,h.mode,h.stk,h.dep,h.line,h.col,
    ⟨by show 0≤C.steps+1;omega,by show C.steps+1≤C.pos*per E+(C.looked+1)*_;omega⟩,fun _=>⟨by show C.ins+1<_;omega,by show C.steps+1+f (C.ins+1).toNat+1≤C.pos*per E+(C.looked+1)*_;rw [e1];omega⟩,h.err,h.toks⟩,he,rfl,rfl,rfl⟩
 rw [if_neg o3] at hl
 by_cases o4:x.op=4
 ·rw [if_pos o4] at hl
  have q3:=sb (.inr o4);cases hl
  exact⟨⟨h.pos,h.looked,h.within,h.marked,⟨by show 0≤x.to;omega,by show x.to≤_;omega⟩,h.c,h.rule,h.mode,h.stk,h.dep,h.line,h.col,
   ⟨by show 0≤C.steps+1;omega,by show C.steps+1≤C.pos*per E+(C.looked+1)*_;omega⟩,fun _=>⟨by show x.to<_;omega,by show C.steps+1+f x.to.toNat+1≤C.pos*per E+(C.looked+1)*_;omega⟩,h.err,h.toks⟩,he,rfl,rfl,rfl⟩
 rw [if_neg o4] at hl
 cases hl
theorem look_stop {E:Env} {f:Nat→Int} (g:Good E f) {C D:Cfg} {e:Int} (h:Sta E f C) (he:C.err=0) (hl:look E C=.stop D e):Held E D∧D.pos=C.pos∧D.steps=C.steps+1∧(e=0∨e=5)∧D.looked=C.looked∧D.toks=C.toks:=by
 obtain⟨h1,h2⟩:=h.live he
 have h0:=h.ins
 have hi:C.ins.toNat<E.p.code.length:=by omega
 have f0:=g.f0 _ hi
 have p5:=h.steps
 have key:Held E { C with steps:=C.steps+1,ins:=C.ins+1 }:=
  ⟨h.pos,h.looked,h.within,h.marked,⟨by show 0≤C.ins+1;omega,by show C.ins+1≤_;omega⟩,h.c,h.rule,h.mode,h.stk,h.dep,h.line,h.col,⟨by show 0≤C.steps+1;omega,by show C.steps+1≤C.pos*per E+(C.looked+1)*_;omega⟩,he,h.toks⟩
 unfold look at hl
 simp only at hl
 split at hl
 ·cases hl
 split at hl
 ·split at hl
  ·split at hl
   ·cases hl;exact⟨key,rfl,rfl,.inl rfl,rfl,rfl⟩
   ·cases hl
  ·split at hl
   ·cases hl;exact⟨key,rfl,rfl,.inr rfl,rfl,rfl⟩
   ·cases hl
 split at hl
 ·cases hl
 split at hl
 ·cases hl
 ·cases hl;exact⟨key,rfl,rfl,.inl rfl,rfl,rfl⟩
theorem adv_bd (s:ByteArray) (a:Nat):∀(n:Nat) (q:Int × Int),1≤q.1→1≤q.2→(1≤(adv s a n q).1∧(adv s a n q).1≤q.1+n)∧(1≤(adv s a n q).2∧(adv s a n q).2≤q.2+n)
 | 0,q,h1,h2=>by simp only [adv];omega
 | n+1,q,h1,h2=>by
  have:=adv_bd s a n q h1 h2;simp only [adv];split
  ·exact⟨⟨by show 1≤(adv s a n q).1+1;omega,by show (adv s a n q).1+1≤_;omega⟩,⟨by show (1:Int)≤1;omega,by show (1:Int)≤_;omega⟩⟩
  ·exact⟨⟨by show 1≤(adv s a n q).1;omega,by show (adv s a n q).1≤_;omega⟩,⟨by show 1≤(adv s a n q).2+1;omega,by show (adv s a n q).2+1≤_;omega⟩⟩
theorem Held.toSta {E:Env} {f:Nat→Int} {C:Cfg} (h:Held E C) {e:Int} (he:1≤e∧e≤7):Sta E f { C with err:=e }:=
 ⟨h.pos,h.looked,h.within,h.marked,h.ins,h.c,h.rule,h.mode,h.stk,h.dep,h.line,h.col,h.steps,fun (x:e=0)=>by omega,⟨by show 0≤e;omega,by show e≤7;omega⟩,h.toks⟩
theorem wrong_bd (p:Prg) (d:Int) (C:Cfg):wrong p d C=0∨(1≤wrong p d C∧wrong p d C≤7):=by
 unfold wrong
 split
 ·right;omega
 split
 ·right;omega
 split
 ·right;omega
 ·left;rfl
theorem per_up {E:Env} {a b k:Int} (hk:0≤k∧k≤E.most) (hab:a+1≤b):a*per E+(k+1)*E.p.code.length≤b*per E:=by
 have h1:(k+1)*(E.p.code.length:Int)≤(E.most+1)*(E.p.code.length:Int):=Int.mul_le_mul_of_nonneg_right (by omega) (by omega)
 have h0:0≤per E:=Int.mul_nonneg (by omega) (by omega)
 have h2:(a+1)*per E≤b*per E:=Int.mul_le_mul_of_nonneg_right hab h0
 rw [Int.add_mul,Int.one_mul] at h2
 unfold per at *
 omega
theorem took_inv {E:Env} {f:Nat→Int} (g:Good E f) {C:Cfg} (h:Held E C) (hw:wrong E.p E.depth C=0):Sta E f (took E.p E.s C)∧(took E.p E.s C).err=0∧C.pos<(took E.p E.s C).pos∧(took E.p E.s C).steps=C.steps:=by
 have hm:1≤C.marked:=by
  have:=h.marked;by_cases e:C.marked=0
  ·unfold wrong at hw;rw [if_pos e] at hw;cases hw
  ·omega
 unfold wrong at hw
 rw [if_neg (by omega)] at hw
 have w1:¬((rg E.p.rules C.rule.toNat).act=2∧E.depth≤C.dep):=fun q=>by rw [if_pos q] at hw;cases hw
 rw [if_neg w1] at hw
 have w2:¬((rg E.p.rules C.rule.toNat).act=3∧C.dep=0):=fun q=>by rw [if_pos q] at hw;cases hw
 have hr:=h.rule
 have hd:=h.dep
 have gd:=g.depth
 have hs:=h.stk
 have hmd:=h.mode
 have ok:=g.right.2.1.2 C.rule.toNat (by omega)
 have ad:=adv_bd E.s C.pos.toNat C.marked.toNat (C.line,C.col) h.line.1 h.col.1
 have p1:=h.pos
 have p2:=h.marked
 have p3:=h.within
 have p4:=h.looked
 have hl:=h.line
 have hc:=h.col
 unfold took
 simp only
 generalize hR:rg E.p.rules C.rule.toNat=r at *
 have okm:=ok.2.2.1
 have md:0≤newMode r C∧newMode r C<E.p.ents.length:=by
  unfold newMode;split
  ·exact okm
  ·split
   ·exact hs.2 _ (by omega)
   ·exact hmd
 have en:=g.right.1.2 (newMode r C).toNat (by omega)
 have st:=h.steps
 have f0:=g.f0 (ig E.p.ents (newMode r C).toNat).toNat (by omega)
 have pu:=per_up (E:=E) (a:=C.pos) (b:=C.pos+C.marked) (k:=C.looked) p4 (by omega)
 have n1:=g.n1
 have z1:((0:Int)+1)*(E.p.code.length:Int)=E.p.code.length:=by rw [Int.zero_add,Int.one_mul]
 refine⟨⟨by show 0≤C.pos+C.marked;omega,⟨Int.le_refl _,by show (0:Int)≤_;omega⟩,by show C.pos+C.marked+0≤_;omega,⟨Int.le_refl _,Int.le_refl _⟩,⟨en.1,by show ig E.p.ents (newMode r C).toNat≤_;omega⟩,⟨Int.le_refl _,by show (0:Int)≤255;omega⟩,⟨Int.le_refl _,by show (0:Int)<_;omega⟩,md,?_,?_,?_,?_,?_,?_,⟨Int.le_refl _,by show (0:Int)≤7;omega⟩,?_⟩,by first | trivial | rfl,by show C.pos<C.pos+C.marked;omega,by first | trivial | rfl⟩
 ·show (newStk r C).length=8∧∀i,i<8→0≤ig (newStk r C) i∧ig (newStk r C) i<_
  unfold newStk;split
  ·refine⟨by rw [List.length_set];exact hs.1,fun i hi=>?_⟩
   have gs:=getD_set C.stk C.dep.toNat i C.mode 0 (by omega);unfold ig at *;rw [gs];split
   ·exact hmd
   ·exact hs.2 i hi
  ·exact hs
 ·show 0≤newDep r C∧newDep r C≤_
  unfold newDep;split
  ·omega
  ·split <;> omega
 ·show 1≤(adv E.s C.pos.toNat C.marked.toNat (C.line,C.col)).1∧(adv E.s C.pos.toNat C.marked.toNat (C.line,C.col)).1≤C.pos+C.marked+1
  have:=ad.1;simp only at this;omega
 ·show 1≤(adv E.s C.pos.toNat C.marked.toNat (C.line,C.col)).2∧(adv E.s C.pos.toNat C.marked.toNat (C.line,C.col)).2≤C.pos+C.marked+1
  have:=ad.2;simp only at this;omega
 ·show 0≤C.steps∧C.steps≤(C.pos+C.marked)*per E+(0+1)*_
  omega
 ·intro _
  show ig E.p.ents (newMode r C).toNat<_∧C.steps+f (ig E.p.ents (newMode r C).toNat).toNat+1≤(C.pos+C.marked)*per E+(0+1)*_;omega
 ·show ((if r.emit=1 then C.toks++[_] else C.toks).length:Int)≤C.pos+C.marked
  have:=h.toks;split
  ·rw [List.length_append,List.length_singleton];omega
  ·omega
theorem take_inv {E:Env} {f:Nat→Int} (g:Good E f) {C:Cfg} (h:Held E C) {e:Int} (he:e=0∨e=5):Sta E f (take E C e)∧(take E C e).steps=C.steps:=by
 unfold take
 split
 ·exact⟨h.toSta (by omega),rfl⟩
 ·split
  ·rename_i hne hw
   have:=wrong_bd E.p E.depth C;exact⟨h.toSta (by omega),rfl⟩
  ·rename_i hne hw
   have:=took_inv g h (by omega);exact⟨this.1,this.2.2.2⟩
theorem mic_inv {E:Env} {f:Nat→Int} (g:Good E f) {C D:Cfg} (h:Sta E f C) (hm:mic E C=some D):Sta E f D∧D.steps=C.steps+1:=by
 unfold mic at hm
 split at hm
 ·cases hm
 ·rename_i hc
  have he:C.err=0:=by
   by_cases e:C.err=0
   ·exact e
   ·exact absurd (.inl e) hc
  cases hl:look E C with
  | wait=>rw [hl] at hm;cases hm
  | go D'=>rw [hl] at hm;cases hm;have:=look_go g h he hl;exact⟨this.1,this.2.2.2.1⟩
  | stop D' e=>
   rw [hl] at hm;cases hm;have:=look_stop g h he hl;have t:=take_inv g this.1 this.2.2.2.1;exact⟨t.1,by rw [t.2];exact this.2.2.1⟩
theorem Rch.inv {E:Env} {f:Nat→Int} (g:Good E f) {C D:Cfg} (r:Rch E C D) (h:Sta E f C):Sta E f D:=by
 induction r with
 | refl=>exact h
 | step _ h2 ih=>exact (mic_inv g ih h2).1
theorem bt_more {s t:ByteArray} {n:Nat} (hn:n<s.size):bt (s++t) n=bt s n:=by
 unfold bt
 have e:(s++t).data.toList=s.data.toList++t.data.toList:=by simp
 rw [e,List.getD_eq_getElem?_getD,List.getD_eq_getElem?_getD,List.getElem?_append_left (by simpa using hn)]
theorem adv_more {s t:ByteArray} {a:Nat} {q:Int × Int}:∀(n:Nat),a+n≤s.size→adv (s++t) a n q=adv s a n q
 | 0,_=>rfl
 | n+1,h=>by
  simp only [adv];rw [adv_more n (by omega),bt_more (by omega)]
def Env.on (E:Env) (t:ByteArray) (b:Bool):Env:={ E with s:=E.s++t,ended:=b }
theorem on_size (E:Env) (t:ByteArray) (b:Bool):(E.on t b).s.size=E.s.size+t.size:=by unfold Env.on;simp
theorem Good.on {E:Env} {f:Nat→Int} (g:Good E f) (t:ByteArray) (b:Bool):Good (E.on t b) f:=⟨g.right,g.most,g.depth,g.f0,g.f1⟩
theorem Sta.on {E:Env} {f:Nat→Int} {C:Cfg} (h:Sta E f C) (t:ByteArray) (b:Bool):Sta (E.on t b) f C:=
 ⟨h.pos,h.looked,by have:=h.within;rw [on_size];omega,h.marked,h.ins,h.c,h.rule,h.mode,h.stk,h.dep,h.line,h.col,h.steps,h.live,h.err,h.toks⟩
theorem look_on {E:Env} {f:Nat→Int} {C:Cfg} (h:Sta E f C) (hE:E.ended=false) (t:ByteArray) (b:Bool) (hl:look E C≠.wait):look (E.on t b) C=look E C:=by
 unfold look at *
 have p:=h.pos
 have l:=h.looked
 simp only [hE] at *
 have e1:(E.on t b).p=E.p:=rfl
 have e2:(E.on t b).most=E.most:=rfl
 have e3:=on_size E t b
 rw [e1,e2,e3]
 generalize cg E.p.code C.ins.toNat=x at *
 by_cases o1:x.op=1
 ·rw [if_pos o1,if_pos o1]
 rw [if_neg o1,if_neg o1]
 rw [if_neg o1] at hl
 by_cases o2:x.op=2
 ·rw [if_pos o2] at hl
  rw [if_pos o2,if_pos o2];by_cases hs:(E.s.size:Int)≤C.pos+C.looked
  ·rw [if_pos hs] at hl;simp at hl
  ·rw [if_neg hs,if_neg (by omega)]
   have:bt (E.on t b).s (C.pos+C.looked).toNat=bt E.s (C.pos+C.looked).toNat:=bt_more (by omega);rw [this]
 rw [if_neg o2,if_neg o2]
theorem mic_on {E:Env} {f:Nat→Int} (g:Good E f) {C D:Cfg} (h:Sta E f C) (hE:E.ended=false) (t:ByteArray) (b:Bool) (hm:mic E C=some D):mic (E.on t b) C=some D:=by
 unfold mic at *
 rw [on_size]
 split at hm
 ·cases hm
 ·rename_i hc
  have he:C.err=0:=by
   by_cases e:C.err=0
   ·exact e
   ·exact absurd (.inl e) hc
  have hp:C.pos<E.s.size:=by
   by_cases e:(E.s.size:Int)≤C.pos
   ·exact absurd (.inr e) hc
   ·omega
  rw [if_neg (by omega)]
  cases hl:look E C with
  | wait=>rw [hl] at hm;cases hm
  | go D'=>rw [look_on h hE t b (by rw [hl];intro q;cases q),hl];rw [hl] at hm;exact hm
  | stop D' e=>
   rw [look_on h hE t b (by rw [hl];intro q;cases q),hl];rw [hl] at hm;cases hm;have hd:=(look_stop g h he hl).1
   have ht:take (E.on t b) D' e=take E D' e:=by
    unfold take took;have a1:=hd.pos;have a2:=hd.marked;have a3:=hd.within;have e1:(E.on t b).p=E.p:=rfl;have e2:(E.on t b).depth=E.depth:=rfl;have e3:(E.on t b).s=E.s++t:=rfl;rw [e1,e2,e3,adv_more _ (by omega)]
   show some (take (E.on t b) D' e)=some (take E D' e);rw [ht]
theorem Rch.on {E:Env} {f:Nat→Int} (g:Good E f) {C D:Cfg} (r:Rch E C D) (h:Sta E f C) (hE:E.ended=false) (t:ByteArray) (b:Bool):Rch (E.on t b) C D:=by
 induction r with
 | refl=>exact .refl _
 | step h1 h2 ih=>exact .step ih (mic_on g (h1.inv g h) hE t b h2)
end Pure
open Go.RowKit
def runCells (ve vr vc vh:Value) (most depth:Int) (C:Pure.Cfg) (ended:Bool) (fault:Int):List Value:=
 [ve,vr,vc,.int .i64 most,.int .i64 depth,.int .i64 C.pos,.int .i64 C.line,.int .i64 C.col,.int .i64 C.mode,
  .int .i64 (Pure.ig C.stk 0),.int .i64 (Pure.ig C.stk 1),.int .i64 (Pure.ig C.stk 2),.int .i64 (Pure.ig C.stk 3),.int .i64 (Pure.ig C.stk 4),.int .i64 (Pure.ig C.stk 5),.int .i64 (Pure.ig C.stk 6),.int .i64 (Pure.ig C.stk 7),
  .int .i64 C.dep,.int .i64 C.steps,.int .i64 C.ins,.int .i64 C.c,.int .i64 C.looked,.int .i64 C.rule,.int .i64 C.marked,vh,.bool ended,.int .i64 fault]
structure Lists (w:World) (p:Pure.Prg) (ve vr vc:Value):Prop where
 e:w.ownsRow 0 3 1 ve p.ents.length (intCells p.ents)
 r:w.ownsRow 0 59 3 vr p.rules.length (ruleCells p.rules)
 c:w.ownsRow 0 61 4 vc p.code.length (insCells p.code)
theorem own_apart {w w':World} {base e size n g t:Nat} {v:Value} {xs ys:List Value} (h:w.ownsRow base e size v n xs) (hb:Blk w g t ys) (ht:t≠e) (hg:w.grownBy w' (some g)):w'.ownsRow base e size v n xs:=by
 refine World.ownsRow.kept h hg ?_
 rcases h.2 with ⟨rfl,_⟩ | ⟨g',cap,cur,rfl,_,hgg,_⟩
 ·exact .inl rfl
 ·right
  simp only [Value.ownBlock,ne_eq,Option.some.injEq];intro e;subst e;unfold Blk at hb;rw [hgg] at hb;simp at hb;exact ht hb.2.symm
theorem own_far {w:World} {base e size n g g' cap t:Nat} {xs ys:List Value} (h:w.ownsRow base e size (.slice (some ⟨g',0,none⟩) n cap) n xs) (hb:Blk w g t ys) (ht:t≠e):g'≠g:=by
 rcases h.2 with ⟨k,_⟩ | ⟨a,b,cur,k,_,hg,_⟩
 ·simp at k
 simp only [Value.slice.injEq,Option.some.injEq,Addr.mk.injEq,and_true,true_and] at k
 obtain⟨rfl,rfl⟩:=k
 intro e1;subst e1
 unfold Blk at hb
 rw [hg] at hb
 simp at hb
 exact ht hb.2.symm
theorem Lists.on {w w':World} {p:Pure.Prg} {ve vr vc:Value} {g t:Nat} {ys:List Value} (h:Lists w p ve vr vc) (hb:Blk w g t ys) (h1:t≠3) (h2:t≠59) (h3:t≠61) (hg:w.grownBy w' (some g)):Lists w' p ve vr vc:=
 ⟨own_apart h.e hb h1 hg,own_apart h.r hb h2 hg,own_apart h.c hb h3 hg⟩
theorem Lists.below {w w':World} {p:Pure.Prg} {ve vr vc:Value} (h:Lists w p ve vr vc) (hb:Below w.heap.size w w'):Lists w' p ve vr vc:=
 ⟨own_below h.e hb lr_,own_below h.r hb lr_,own_below h.c hb lr_⟩
structure Mach (w:World) (g:Nat) (E:Pure.Env) (ve vr vc vh:Value) (C:Pure.Cfg) (fault:Int):Prop where
 blk:Blk w g 177 (runCells ve vr vc vh E.most E.depth C E.ended fault)
 l:Lists w E.p ve vr vc
theorem Mach.below {w w':World} {g:Nat} {E:Pure.Env} {ve vr vc vh:Value} {C:Pure.Cfg} {fault:Int} (m:Mach w g E ve vr vc vh C fault) (h:Below w.heap.size w w'):Mach w' g E ve vr vc vh C fault:=
 ⟨blk_below m.blk h (blk_lt m.blk),m.l.below h⟩
theorem Mach.set {w:World} {g:Nat} {E:Pure.Env} {ve vr vc vh vh':Value} {C D:Pure.Cfg} {fault fault':Int} (m:Mach w g E ve vr vc vh C fault) (j:Nat) (u:Value) (E':Pure.Env) (hp:E'.p=E.p)
  (h:(runCells ve vr vc vh E.most E.depth C E.ended fault).set j u=runCells ve vr vc vh' E'.most E'.depth D E'.ended fault'):Mach (w.setCell ⟨g,j,none⟩ u) g E' ve vr vc vh' D fault':=by
 refine⟨by rw [←h];exact blk_set m.blk j u,?_⟩
 rw [hp]
 exact m.l.on m.blk (by decide) (by decide) (by decide) (Lib.grownBy_setCell w g j u)
theorem Mach.drewN {w:World} {g:Nat} {E:Pure.Env} {ve vr vc vh:Value} {C:Pure.Cfg} {fault:Int} (m:Mach w g E ve vr vc vh C fault) (n:Nat):Mach (w.drewN n) g E ve vr vc vh C fault:=⟨m.blk,⟨m.l.e,m.l.r,m.l.c⟩⟩
theorem Mach.drew {w:World} {g:Nat} {E:Pure.Env} {ve vr vc vh:Value} {C:Pure.Cfg} {fault:Int} (m:Mach w g E ve vr vc vh C fault):Mach w.drew g E ve vr vc vh C fault:=⟨m.blk,⟨m.l.e,m.l.r,m.l.c⟩⟩
theorem Mach.alloc {w:World} {g:Nat} {E:Pure.Env} {ve vr vc vh:Value} {C:Pure.Cfg} {fault:Int} (m:Mach w g E ve vr vc vh C fault) (o:Obj):Mach (w.alloc o) g E ve vr vc vh C fault:=
 m.below (bn_ o)
theorem Mach.frozen {w:World} {g:Nat} {E:Pure.Env} {ve vr vc vh:Value} {C:Pure.Cfg} {fault:Int} (m:Mach w g E ve vr vc vh C fault) (j:Nat):w.frozen? ⟨g,j,none⟩=false:=blk_frozen m.blk j
theorem grown_drewN {w w':World} {row:Option Nat} (h:w.grownBy w' row) (n:Nat):w.grownBy (w'.drewN n) row:=⟨h.1,h.2,h.3,h.4,h.5⟩
theorem grown_drew {w w':World} {row:Option Nat} (h:w.grownBy w' row):w.grownBy w'.drew row:=⟨h.1,h.2,h.3,h.4,h.5⟩
theorem grown_set {w w':World} {g:Nat} (h:w.grownBy w' (some g)) (j:Nat) (u:Value):w.grownBy (w'.setCell ⟨g,j,none⟩ u) (some g):=Lib.grownBy_setB h j u
theorem grown_alloc {w w':World} {row:Option Nat} (h:w.grownBy w' row) (o:Obj):w.grownBy (w'.alloc o) row:=Lib.grownBy_allocR h o
theorem grown_below {w w' w'':World} {row:Option Nat} (h:w.grownBy w' row) (hb:Below w'.heap.size w' w''):w.grownBy w'' row:=Lib.grownBy_below h hb
theorem Mach.cell {w:World} {g:Nat} {E:Pure.Env} {ve vr vc vh:Value} {C:Pure.Cfg} {fault:Int} (m:Mach w g E ve vr vc vh C fault) {j:Nat} {u:Value} (h:(runCells ve vr vc vh E.most E.depth C E.ended fault)[j]?=some u):w.cell? ⟨g,j,none⟩=some u:=blk_cell m.blk h
theorem runCells_stk {ve vr vc vh:Value} {most depth:Int} {C:Pure.Cfg} {ended:Bool} {fault:Int} {d:Nat} (hd:d<8):(runCells ve vr vc vh most depth C ended fault)[9+d]?=some (.int .i64 (Pure.ig C.stk d)):=by
 match d,hd with
 | 0,_=>rfl
 | 1,_=>rfl
 | 2,_=>rfl
 | 3,_=>rfl
 | 4,_=>rfl
 | 5,_=>rfl
 | 6,_=>rfl
 | 7,_=>rfl
theorem runCells_push {ve vr vc vh:Value} {most depth:Int} {C:Pure.Cfg} {ended:Bool} {fault:Int} {d:Nat} (hd:d<8) (hl:C.stk.length=8) (x:Int) :
  (runCells ve vr vc vh most depth C ended fault).set (9+d) (.int .i64 x)=runCells ve vr vc vh most depth { C with stk:=C.stk.set d x } ended fault:=by
 have e:∀k,Pure.ig (C.stk.set d x) k=if k=d then x else Pure.ig C.stk k:=fun k=>Pure.getD_set C.stk d k x 0 (by omega)
 unfold runCells
 simp only [e]
 match d,hd with
 | 0,_=>rfl
 | 1,_=>rfl
 | 2,_=>rfl
 | 3,_=>rfl
 | 4,_=>rfl
 | 5,_=>rfl
 | 6,_=>rfl
 | 7,_=>rfl
def ByteRow (w:World) (v:Value) (s:ByteArray):Prop:=(s.size=0∧v=.slice none 0 0)∨
 ∃b cap cs fr,v=.slice (some ⟨b,0,none⟩) s.size cap∧s.size≤cap∧cap≤9223372036854775807∧w.heap[b]?=some (.cells cs 5 fr)∧∀j,j<s.size→cs[j]?=some (.int .u8 (bt s j))
theorem ByteRow.on {w w':World} {v:Value} {s:ByteArray} {g t:Nat} {ys:List Value} (h:ByteRow w v s) (hb:Blk w g t ys) (ht:t≠5) (hg:w.grownBy w' (some g)):ByteRow w' v s:=by
 rcases h with h | ⟨b,cap,cs,fr,h1,h2,h2',h3,h4⟩
 ·exact .inl h
 ·refine .inr ⟨b,cap,cs,fr,h1,h2,h2',?_,h4⟩
  rw [hg.block b (Array.getElem?_eq_some_iff.1 h3).1 ?_]
  ·exact h3
  ·intro e
   cases e
   unfold Blk at hb;rw [h3] at hb;simp at hb;exact ht hb.2.1.symm
theorem ByteRow.below {w w':World} {v:Value} {s:ByteArray} (h:ByteRow w v s) (hb:Below w.heap.size w w'):ByteRow w' v s:=by
 rcases h with h | ⟨b,cap,cs,fr,h1,h2,h2',h3,h4⟩
 ·exact .inl h
 ·exact .inr ⟨b,cap,cs,fr,h1,h2,h2',by rw [hb.block b (Array.getElem?_eq_some_iff.1 h3).1];exact h3,h4⟩
theorem ByteRow.form {w:World} {v:Value} {s:ByteArray} (h:ByteRow w v s):∃ao cap,v=.slice ao s.size cap∧s.size≤cap∧cap≤9223372036854775807:=by
 rcases h with ⟨h0,rfl⟩ | ⟨b,cap,cs,fr,rfl,h2,h3,_⟩
 ·exact⟨none,0,by rw [h0],by omega,by omega⟩
 ·exact⟨_,cap,rfl,h2,h3⟩
theorem Lists.someE {w:World} {p:Pure.Prg} {ve vr vc:Value} (h:Lists w p ve vr vc) (hp:Pure.RightP p):(∃ge ce,ve=.slice (some ⟨ge,0,none⟩) p.ents.length ce∧p.ents.length≤ce∧ce≤9223372036854775807)∧(∃gr cr,vr=.slice (some ⟨gr,0,none⟩) p.rules.length cr∧p.rules.length≤cr∧cr≤9223372036854775807)∧(∃gc cc,vc=.slice (some ⟨gc,0,none⟩) p.code.length cc∧p.code.length≤cc∧cc≤9223372036854775807):=
 ⟨own_some h.e (by have:=hp.1.1;omega),own_some h.r (by have:=hp.2.1.1;omega),own_some h.c (by have:=hp.2.2.1.1;omega)⟩
theorem own_rule {w:World} {base n g cap:Nat} {l:List Pure.Rule} (h:w.ownsRow base 59 3 (.slice (some ⟨g,0,none⟩) n cap) n (ruleCells l)) {i:Nat} (hi:i<l.length) :
  w.cell? ⟨g,i*3,none⟩=some (.int .i64 (Pure.rg l i).emit)∧w.cell? ⟨g,i*3+1,none⟩=some (.int .i64 (Pure.rg l i).act)∧w.cell? ⟨g,i*3+2,none⟩=some (.int .i64 (Pure.rg l i).mode):=by
 have q:=ruleCells_get l i hi
 rw [Nat.mul_comm] at q
 exact⟨own_cell h q.1,own_cell h q.2.1,own_cell h q.2.2⟩
theorem own_int {w:World} {base n g cap:Nat} {l:List Int} (h:w.ownsRow base 3 1 (.slice (some ⟨g,0,none⟩) n cap) n (intCells l)) {i:Nat} (hi:i<l.length) :
  w.cell? ⟨g,i,none⟩=some (.int .i64 (Pure.ig l i)):=own_cell h (intCells_get l i hi)
end Go.Proofs.YtmccnmgaoppogaaGreat
