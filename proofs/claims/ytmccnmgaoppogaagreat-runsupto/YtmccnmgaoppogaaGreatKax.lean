import Derived.Test.YtmccnmgaoppogaaGreatKav
namespace Go.Proofs.YtmccnmgaoppogaaGreat
open Pu
set_option linter.all false
set_option maxRecDepth 100000
set_option maxHeartbeats 8000000
variable {base cap g i n t:Nat} {f:Nat->Int} {s:Y_} {w w':W_} {v vc ve vr:V_} {ys:List V_} {row:Option Nat} {depth fault:Int} {ended:Bool}
namespace Pu
structure bJ where
 rule:Int
 pos:Int
 len:Int
 line:Int
 iH:Int
structure bI where
 pos:Int
 line:Int
 iH:Int
 mode:Int
 kK:List Int
 iW:Int
 steps:Int
 ins:Int
 c:Int
 looked:Int
 rule:Int
 marked:Int
 dV:List bJ
 err:Int
structure bH where
 p:oC
 most:Int
 depth:Int
 s:Y_
 ended:Bool
inductive Lk where
 | wait:Lk
 | go:bI->Lk
 | stop:bI->Int->Lk
def look (E:bH) (C:bI):Lk:=
 let x:=aO E.p.code C.ins.toNat
 let D:bI:={ C with steps:=C.steps+1,ins:=C.ins+1 }
 if x.op=1 then .go (if 0<C.looked then { D with rule:=x.a,marked:=C.looked } else D)
 else if x.op=2 then
  if (E.s.size:Int)<=C.pos+C.looked then (if E.ended then .stop D 0 else .wait)
  else if E.most<=C.looked then .stop D 5
  else .go { D with c:=bt E.s (C.pos+C.looked).toNat,looked:=C.looked+1 }
 else if x.op=3 then .go (if x.a<=C.c/\C.c<=x.b then { D with ins:=x.bG } else D)
 else if x.op=4 then .go { D with ins:=x.bG }
 else .stop D 0
def qf (s:Y_) (a:Nat):Nat->Int × Int->Int × Int
 | 0,q=>q
 | n+1,q=>if bt s (a+n)=10 then ((qf s a n q).1+1,1) else ((qf s a n q).1,(qf s a n q).2+1)
def wrong (p:oC) (depth:Int) (C:bI):Int:=
 if C.marked=0 then 4
 else if (rg p.rules C.rule.toNat).act=2/\depth<=C.iW then 6
 else if (rg p.rules C.rule.toNat).act=3/\C.iW=0 then 7
 else 0
def fO (r:mJ) (C:bI):Int:=if r.act=1\/r.act=2 then r.mode else if r.act=3 then aU C.kK (C.iW-1).toNat else C.mode
def lG (r:mJ) (C:bI):List Int:=if r.act=2 then C.kK.set C.iW.toNat C.mode else C.kK
def lZ (r:mJ) (C:bI):Int:=if r.act=2 then C.iW+1 else if r.act=3 then C.iW-1 else C.iW
def took (p:oC) (s:Y_) (C:bI):bI:=
 let r:=rg p.rules C.rule.toNat
 { pos:=C.pos+C.marked,line:=(qf s C.pos.toNat C.marked.toNat (C.line,C.iH)).1,iH:=(qf s C.pos.toNat C.marked.toNat (C.line,C.iH)).2,mode:=fO r C,kK:=lG r C,iW:=lZ r C,steps:=C.steps,ins:=aU p.ents (fO r C).toNat,c:=0,looked:=0,rule:=0,marked:=0,dV:=if r.emit=1 then C.dV++[⟨C.rule,C.pos,C.marked,C.line,C.iH⟩] else C.dV,err:=0 }
def take (E:bH) (C:bI) (e:Int):bI:=
 if e≠0 then { C with err:=e }
 else if wrong E.p E.depth C≠0 then { C with err:=wrong E.p E.depth C }
 else took E.p E.s C
def AY (E:bH) (C:bI):Option bI:=
 if C.err≠0\/(E.s.size:Int)<=C.pos then none
 else match look E C with
  | .wait=>none
  | .go D=>some D
  | .stop D e=>some (take E D e)
inductive qF (E:bH):bI->bI->Prop where
 | refl (C:bI):qF E C C
 | step {C D F:bI}:qF E C D->AY E D=some F->qF E C F
theorem qF.trans {E:bH} {A B C:bI} (h:qF E A B) (k:qF E B C):qF E A C:=by
 induction k with
 | refl=>exact h
 | step _ h2 ih=>exact .step ih h2
def Runs (E:bH) (C D:bI):Prop:=qF E C D/\AY E D=none
theorem qF.head {E:bH} {A C:bI} (h:qF E A C):A=C\/∃B,AY E A=some B/\qF E B C:=by
 induction h with
 | refl=>exact .inl rfl
 | step h1 h2 ih=>
  right;rcases ih with rfl | ⟨B,hb,hr⟩
  .exact⟨_,h2,.refl _⟩
  .exact⟨B,hb,.step hr h2⟩
theorem qF.meets {E:bH} {A B C:bI} (h:qF E A B) (k:qF E A C):qF E B C\/qF E C B:=by
 induction h with
 | refl=>exact .inl k
 | step _ h2 ih=>
  rcases ih with h | h
  .rcases h.head with rfl | ⟨X,hx,hr⟩
   .exact .inr (.step (.refl _) h2)
   .rw [h2] at hx;cases hx;exact .inl hr
  .exact .inr (.step h h2)
theorem qF.done {E:bH} {A B:bI} (h:qF E A B) (hn:AY E A=none):A=B:=by
 rcases h.head with rfl | ⟨X,hx,_⟩
 .rfl
 .rw [hn] at hx;cases hx
theorem Runs.same {E:bH} {A B C:bI} (h:Runs E A B) (k:Runs E A C):B=C:=by
 rcases h.1.meets k.1 with r | r
 .exact r.done h.2
 .exact (r.done k.2).symm
theorem zG {E:bH} {C:bI} (h:C.err≠0):AY E C=none:=by unfold AY;rw [if_pos (.inl h)]
def rk (jL:Nat->Nat) (n i:Nat):Nat:=((List.range n).filter (fun j=>decide (jL j<jL i))).length
theorem filter_le {α:Type} (p q:α->Bool) (l:List α) (h:∀x,x∈l->p x=true->q x=true):(l.filter p).length<=(l.filter q).length:=by
 induction l with
 | nil=>simp
 | cons x r ih=>
  have ih':=ih (fun y hy=>h y (mc_ _ hy));have hx:=h x ms_
  cases hp:p x with
  | true=>rw [List.filter_cons_of_pos hp,List.filter_cons_of_pos (hx hp)];simp;exact ih'
  | false=>
   rw [List.filter_cons_of_neg (by simp [hp])]
   cases hq:q x with
   | true=>rw [List.filter_cons_of_pos hq];simp;omega
   | false=>rw [List.filter_cons_of_neg (by simp [hq])];exact ih'
theorem filter_lt {α:Type} (p q:α->Bool) (l:List α) (h:∀x,x∈l->p x=true->q x=true) {y:α} (hy:y∈l) (hp:p y=false) (hq:q y=true):(l.filter p).length<(l.filter q).length:=by
 induction l with
 | nil=>simp at hy
 | cons x r ih=>
  have hr:∀z,z∈r->p z=true->q z=true:=fun z hz=>h z (mc_ _ hz)
  have hx:=h x ms_;rcases mm_.1 hy with rfl | hy
  .rw [List.filter_cons_of_neg (by simp [hp]),List.filter_cons_of_pos hq];have:=filter_le p q r hr;simp;omega
  .have ih':=ih hr hy
   cases hp':p x with
   | true=>rw [List.filter_cons_of_pos hp',List.filter_cons_of_pos (hx hp')];simp;exact ih'
   | false=>
    rw [List.filter_cons_of_neg (by simp [hp'])]
    cases hq':q x with
    | true=>rw [List.filter_cons_of_pos hq'];simp;omega
    | false=>rw [List.filter_cons_of_neg (by simp [hq'])];exact ih'
theorem ahA (jL:Nat->Nat) {j:Nat} (hj:j<n) (h:jL j<jL i):rk jL n j<rk jL n i:=by
 unfold rk;refine filter_lt _ _ _ (fun x _ hx=>?_) (List.mem_range.2 hj) ?_ ?_
 .simp at hx |-;omega
 .simp
 .simpa using h
theorem ahz (jL:Nat->Nat) (hi:i<n):rk jL n i<n:=by
 have h:rk jL n i<((List.range n).filter (fun _=>true)).length:=by unfold rk;refine filter_lt _ _ _ (fun _ _ _=>rfl) (List.mem_range.2 hi) ?_ rfl;simp
 have e:((List.range n).filter (fun _=>true)).length=n:=by rw [List.filter_eq_self.2 (fun _ _=>rfl),List.length_range]
 omega
theorem aeT {l:List dY} (h:wo l) (ht:nJ l):∃f:Nat->Int,(∀i,i<l.length->0<=f i/\f i<l.length)/\∀i,i<l.length->∀j,j∈succ l i->f j<f i:=by obtain⟨jL,hr⟩:=h;refine⟨fun i=>(rk jL l.length i:Int),fun i hi=>⟨Int.natCast_nonneg _,Int.ofNat_lt.2 (ahz jL hi)⟩,fun i hi j hj=>?_⟩;have:=ahA jL (ht.lt hi hj) (hr i hi j hj);show (rk jL l.length j:Int)<(rk jL l.length i:Int);omega
end Pu
namespace Pu
structure Good (E:bH) (f:Nat->Int):Prop where
 right:iy E.p
 most:1<=E.most/\E.most<=64
 depth:0<=E.depth/\E.depth<=8
 f0:∀i,i<E.p.code.length->0<=f i/\f i<E.p.code.length
 f1:∀i,i<E.p.code.length->∀j,j∈succ E.p.code i->f j<f i
def vv (E:bH):Int:=(E.most+1)*E.p.code.length
structure wD (E:bH) (f:Nat->Int) (C:bI):Prop where
 pos:0<=C.pos
 looked:0<=C.looked/\C.looked<=E.most
 within:C.pos+C.looked<=E.s.size
 marked:0<=C.marked/\C.marked<=C.looked
 ins:0<=C.ins/\C.ins<=E.p.code.length
 c:0<=C.c/\C.c<=255
 rule:0<=C.rule/\C.rule<E.p.rules.length
 mode:0<=C.mode/\C.mode<E.p.ents.length
 kK:C.kK.length=8/\∀i,i<8->0<=aU C.kK i/\aU C.kK i<E.p.ents.length
 iW:0<=C.iW/\C.iW<=E.depth
 line:1<=C.line/\C.line<=C.pos+1
 iH:1<=C.iH/\C.iH<=C.pos+1
 steps:0<=C.steps/\C.steps<=C.pos*vv E+(C.looked+1)*E.p.code.length
 live:C.err=0->C.ins<E.p.code.length/\C.steps+f C.ins.toNat+1<=C.pos*vv E+(C.looked+1)*E.p.code.length
 err:0<=C.err/\C.err<=7
 dV:(C.dV.length:Int)<=C.pos
structure OO (E:bH) (C:bI):Prop where
 pos:0<=C.pos
 looked:0<=C.looked/\C.looked<=E.most
 within:C.pos+C.looked<=E.s.size
 marked:0<=C.marked/\C.marked<=C.looked
 ins:0<=C.ins/\C.ins<=E.p.code.length
 c:0<=C.c/\C.c<=255
 rule:0<=C.rule/\C.rule<E.p.rules.length
 mode:0<=C.mode/\C.mode<E.p.ents.length
 kK:C.kK.length=8/\∀i,i<8->0<=aU C.kK i/\aU C.kK i<E.p.ents.length
 iW:0<=C.iW/\C.iW<=E.depth
 line:1<=C.line/\C.line<=C.pos+1
 iH:1<=C.iH/\C.iH<=C.pos+1
 steps:0<=C.steps/\C.steps<=C.pos*vv E+(C.looked+1)*E.p.code.length
 err:C.err=0
 dV:(C.dV.length:Int)<=C.pos
theorem Good.adt {E:bH} (g:Good E f) (hi:i<E.p.code.length):rz E.p.rules.length E.p.code.length (aO E.p.code i):=g.right.2.2.1.2.1 i hi
theorem Good.next {E:bH} (g:Good E f) (hi:i<E.p.code.length) (ho:(aO E.p.code i).op≠4/\(aO E.p.code i).op≠5):i+1<E.p.code.length:=by
 have:=g.right.2.2.1.2.2;by_cases e:i=E.p.code.length-1
 .rw [<-e] at this;omega
 .omega
theorem Good.n1 {E:bH} (g:Good E f):1<=E.p.code.length/\E.p.code.length<=50000:=g.right.2.2.1.1
theorem aeI (a n:Int):(a+1+1)*n=(a+1)*n+n:=by rw [Int.add_mul (a+1) 1 n,Int.one_mul]
theorem ae1 {l:List dY} (h:(aO l i).op=1\/(aO l i).op=3):i+1∈succ l i:=by unfold succ;rw [ma_];left;unfold fst;unfold aO at h;rw [if_pos h];simp
theorem ae2 {l:List dY} (h:(aO l i).op=3\/(aO l i).op=4):(aO l i).bG.toNat∈succ l i:=by
 unfold succ;rw [ma_];right;unfold snd;unfold aO at h |-
 rw [if_pos h];simp
theorem Da {E:bH} (g:Good E f) {C D:bI} (h:wD E f C) (he:C.err=0) (hl:look E C=.go D):wD E f D/\D.err=0/\D.pos=C.pos/\D.steps=C.steps+1/\D.dV=C.dV:=by
 obtain⟨h1,h2⟩:=h.live he;have h0:=h.ins;have hi:C.ins.toNat<E.p.code.length:=by omega
 have hok:=g.adt hi;have nx:=g.next hi
 have fi:=g.f1 _ hi;have p1:=h.pos;have p2:=h.looked;have p3:=h.within;have p4:=h.marked;have p5:=h.steps;have sa:=fun q=>g.f1 _ hi _ (ae1 (l:=E.p.code) (i:=C.ins.toNat) q)
 have sb:=fun q=>g.f1 _ hi _ (ae2 (l:=E.p.code) (i:=C.ins.toNat) q)
 have f0:=g.f0 _ hi;have e1:(C.ins+1).toNat=C.ins.toNat+1:=by omega
 unfold look at hl;simp only at hl;unfold rz at hok;generalize aO E.p.code C.ins.toNat=x at *;by_cases o1:x.op=1
 .rw [if_pos o1] at hl;have q1:=nx (by omega);have q2:=sa (.inl o1);split at hl
  .cases hl
   exact⟨⟨h.pos,h.looked,h.within,⟨by show 0<=C.looked;omega,by show C.looked<=C.looked;omega⟩,⟨by show 0<=C.ins+1;omega,by show C.ins+1<=_;omega⟩,h.c,⟨by show 0<=x.a;omega,by show x.a<_;omega⟩,h.mode,h.kK,h.iW,h.line,h.iH,
    ⟨by show 0<=C.steps+1;omega,by show C.steps+1<=C.pos*vv E+(C.looked+1)*_;omega⟩,fun _=>⟨by show C.ins+1<_;omega,by show C.steps+1+f (C.ins+1).toNat+1<=C.pos*vv E+(C.looked+1)*_;rw [e1];omega⟩,h.err,h.dV⟩,he,rfl,rfl,rfl⟩
  .cases hl
   exact⟨⟨h.pos,h.looked,h.within,h.marked,⟨by show 0<=C.ins+1;omega,by show C.ins+1<=_;omega⟩,h.c,h.rule,h.mode,h.kK,h.iW,h.line,h.iH,
    ⟨by show 0<=C.steps+1;omega,by show C.steps+1<=C.pos*vv E+(C.looked+1)*_;omega⟩,fun _=>⟨by show C.ins+1<_;omega,by show C.steps+1+f (C.ins+1).toNat+1<=C.pos*vv E+(C.looked+1)*_;rw [e1];omega⟩,h.err,h.dV⟩,he,rfl,rfl,rfl⟩
 rw [if_neg o1] at hl;by_cases o2:x.op=2
 .rw [if_pos o2] at hl;have q1:=nx (by omega);have q2:=g.f0 _ q1;have q3:=aeI C.looked (E.p.code.length:Int);split at hl
  .split at hl <;> cases hl
  .split at hl
   .cases hl
   .cases hl
    have:=iC E.s (C.pos+C.looked).toNat
    exact⟨⟨h.pos,⟨by show 0<=C.looked+1;omega,by show C.looked+1<=_;omega⟩,by show C.pos+(C.looked+1)<=_;omega,⟨h.marked.1,by show C.marked<=C.looked+1;omega⟩,⟨by show 0<=C.ins+1;omega,by show C.ins+1<=_;omega⟩,this,h.rule,h.mode,h.kK,h.iW,h.line,h.iH,
     ⟨by show 0<=C.steps+1;omega,by show C.steps+1<=C.pos*vv E+(C.looked+1+1)*_;omega⟩,fun _=>⟨by show C.ins+1<_;omega,by show C.steps+1+f (C.ins+1).toNat+1<=C.pos*vv E+(C.looked+1+1)*_;rw [e1];omega⟩,h.err,h.dV⟩,he,rfl,rfl,rfl⟩
 rw [if_neg o2] at hl;by_cases o3:x.op=3
 .rw [if_pos o3] at hl;have q1:=nx (by omega);have q2:=sa (.inr o3);have q3:=sb (.inl o3);split at hl
  .cases hl
   exact⟨⟨h.pos,h.looked,h.within,h.marked,⟨by show 0<=x.bG;omega,by show x.bG<=_;omega⟩,h.c,h.rule,h.mode,h.kK,h.iW,h.line,h.iH,
    ⟨by show 0<=C.steps+1;omega,by show C.steps+1<=C.pos*vv E+(C.looked+1)*_;omega⟩,fun _=>⟨by show x.bG<_;omega,by show C.steps+1+f x.bG.toNat+1<=C.pos*vv E+(C.looked+1)*_;omega⟩,h.err,h.dV⟩,he,rfl,rfl,rfl⟩
  .cases hl
   exact⟨⟨h.pos,h.looked,h.within,h.marked,⟨by show 0<=C.ins+1;omega,by show C.ins+1<=_;omega⟩,h.c,h.rule,h.mode,h.kK,h.iW,h.line,h.iH,
    ⟨by show 0<=C.steps+1;omega,by show C.steps+1<=C.pos*vv E+(C.looked+1)*_;omega⟩,fun _=>⟨by show C.ins+1<_;omega,by show C.steps+1+f (C.ins+1).toNat+1<=C.pos*vv E+(C.looked+1)*_;rw [e1];omega⟩,h.err,h.dV⟩,he,rfl,rfl,rfl⟩
 rw [if_neg o3] at hl;by_cases o4:x.op=4
 .rw [if_pos o4] at hl;have q3:=sb (.inr o4);cases hl
  exact⟨⟨h.pos,h.looked,h.within,h.marked,⟨by show 0<=x.bG;omega,by show x.bG<=_;omega⟩,h.c,h.rule,h.mode,h.kK,h.iW,h.line,h.iH,
   ⟨by show 0<=C.steps+1;omega,by show C.steps+1<=C.pos*vv E+(C.looked+1)*_;omega⟩,fun _=>⟨by show x.bG<_;omega,by show C.steps+1+f x.bG.toNat+1<=C.pos*vv E+(C.looked+1)*_;omega⟩,h.err,h.dV⟩,he,rfl,rfl,rfl⟩
 rw [if_neg o4] at hl;cases hl
theorem rf {E:bH} (g:Good E f) {C D:bI} {e:Int} (h:wD E f C) (he:C.err=0) (hl:look E C=.stop D e):OO E D/\D.pos=C.pos/\D.steps=C.steps+1/\(e=0\/e=5)/\D.looked=C.looked/\D.dV=C.dV:=by
 obtain⟨h1,h2⟩:=h.live he;have h0:=h.ins;have hi:C.ins.toNat<E.p.code.length:=by omega
 have f0:=g.f0 _ hi;have p5:=h.steps
 have key:OO E { C with steps:=C.steps+1,ins:=C.ins+1 }:=
  ⟨h.pos,h.looked,h.within,h.marked,⟨by show 0<=C.ins+1;omega,by show C.ins+1<=_;omega⟩,h.c,h.rule,h.mode,h.kK,h.iW,h.line,h.iH,⟨by show 0<=C.steps+1;omega,by show C.steps+1<=C.pos*vv E+(C.looked+1)*_;omega⟩,he,h.dV⟩
 unfold look at hl;simp only at hl;split at hl
 .cases hl
 split at hl
 .split at hl
  .split at hl
   .cases hl;exact⟨key,rfl,rfl,.inl rfl,rfl,rfl⟩
   .cases hl
  .split at hl
   .cases hl;exact⟨key,rfl,rfl,.inr rfl,rfl,rfl⟩
   .cases hl
 split at hl
 .cases hl
 split at hl
 .cases hl
 .cases hl;exact⟨key,rfl,rfl,.inl rfl,rfl,rfl⟩
theorem I9 (s:Y_) (a:Nat):∀(n:Nat) (q:Int × Int),1<=q.1->1<=q.2->(1<=(qf s a n q).1/\(qf s a n q).1<=q.1+n)/\(1<=(qf s a n q).2/\(qf s a n q).2<=q.2+n)
 | 0,q,h1,h2=>by simp only [qf];omega
 | n+1,q,h1,h2=>by
  have:=I9 s a n q h1 h2;simp only [qf];split
  .exact⟨⟨by show 1<=(qf s a n q).1+1;omega,by show (qf s a n q).1+1<=_;omega⟩,⟨by show (1:Int)<=1;omega,by show (1:Int)<=_;omega⟩⟩
  .exact⟨⟨by show 1<=(qf s a n q).1;omega,by show (qf s a n q).1<=_;omega⟩,⟨by show 1<=(qf s a n q).2+1;omega,by show (qf s a n q).2+1<=_;omega⟩⟩
theorem OO.TU {E:bH} {C:bI} (h:OO E C) {e:Int} (he:1<=e/\e<=7):wD E f { C with err:=e }:=
 ⟨h.pos,h.looked,h.within,h.marked,h.ins,h.c,h.rule,h.mode,h.kK,h.iW,h.line,h.iH,h.steps,fun (x:e=0)=>by omega,⟨by show 0<=e;omega,by show e<=7;omega⟩,h.dV⟩
theorem Ot (p:oC) (d:Int) (C:bI):wrong p d C=0\/(1<=wrong p d C/\wrong p d C<=7):=by
 unfold wrong;split
 .right;omega
 split
 .right;omega
 split
 .right;omega
 .left;rfl
theorem ZT {E:bH} {a b k:Int} (hk:0<=k/\k<=E.most) (hab:a+1<=b):a*vv E+(k+1)*E.p.code.length<=b*vv E:=by have h1:(k+1)*(E.p.code.length:Int)<=(E.most+1)*(E.p.code.length:Int):=Int.mul_le_mul_of_nonneg_right (by omega) (by omega);have h0:0<=vv E:=Int.mul_nonneg (by omega) (by omega);have h2:(a+1)*vv E<=b*vv E:=Int.mul_le_mul_of_nonneg_right hab h0;rw [Int.add_mul,Int.one_mul] at h2;unfold vv at *;omega
theorem sH {E:bH} (g:Good E f) {C:bI} (h:OO E C) (hw:wrong E.p E.depth C=0):wD E f (took E.p E.s C)/\(took E.p E.s C).err=0/\C.pos<(took E.p E.s C).pos/\(took E.p E.s C).steps=C.steps:=by
 have hm:1<=C.marked:=by
  have:=h.marked;by_cases e:C.marked=0
  .unfold wrong at hw;rw [if_pos e] at hw;cases hw
  .omega
 unfold wrong at hw;rw [if_neg (by omega)] at hw;have w1:¬((rg E.p.rules C.rule.toNat).act=2/\E.depth<=C.iW):=fun q=>by rw [if_pos q] at hw;cases hw
 rw [if_neg w1] at hw;have w2:¬((rg E.p.rules C.rule.toNat).act=3/\C.iW=0):=fun q=>by rw [if_pos q] at hw;cases hw
 have hr:=h.rule;have hd:=h.iW;have gd:=g.depth;have hs:=h.kK;have hmd:=h.mode;have ok:=g.right.2.1.2 C.rule.toNat (by omega);have ad:=I9 E.s C.pos.toNat C.marked.toNat (C.line,C.iH) h.line.1 h.iH.1;have p1:=h.pos;have p2:=h.marked;have p3:=h.within;have p4:=h.looked;have hl:=h.line;have hc:=h.iH;unfold took;simp only;generalize hR:rg E.p.rules C.rule.toNat=r at *;have okm:=ok.2.2.1
 have md:0<=fO r C/\fO r C<E.p.ents.length:=by
  unfold fO;split
  .exact okm
  .split
   .exact hs.2 _ (by omega)
   .exact hmd
 have en:=g.right.1.2 (fO r C).toNat (by omega);have st:=h.steps;have f0:=g.f0 (aU E.p.ents (fO r C).toNat).toNat (by omega);have pu:=ZT (E:=E) (a:=C.pos) (b:=C.pos+C.marked) (k:=C.looked) p4 (by omega);have n1:=g.n1;have z1:((0:Int)+1)*(E.p.code.length:Int)=E.p.code.length:=by rw [Int.zero_add,Int.one_mul]
 refine⟨⟨by show 0<=C.pos+C.marked;omega,⟨Int.le_refl _,by show (0:Int)<=_;omega⟩,by show C.pos+C.marked+0<=_;omega,⟨Int.le_refl _,Int.le_refl _⟩,⟨en.1,by show aU E.p.ents (fO r C).toNat<=_;omega⟩,⟨Int.le_refl _,by show (0:Int)<=255;omega⟩,⟨Int.le_refl _,by show (0:Int)<_;omega⟩,md,?_,?_,?_,?_,?_,?_,⟨Int.le_refl _,by show (0:Int)<=7;omega⟩,?_⟩,by first | trivial | rfl,by show C.pos<C.pos+C.marked;omega,by first | trivial | rfl⟩
 .show (lG r C).length=8/\∀i,i<8->0<=aU (lG r C) i/\aU (lG r C) i<_;unfold lG;split
  .refine⟨by rw [le_];exact hs.1,fun i hi=>?_⟩;have gs:=uD C.kK C.iW.toNat i C.mode 0 (by omega);unfold aU at *;rw [gs];split
   .exact hmd
   .exact hs.2 i hi
  .exact hs
 .show 0<=lZ r C/\lZ r C<=_;unfold lZ;split
  .omega
  .split <;> omega
 .show 1<=(qf E.s C.pos.toNat C.marked.toNat (C.line,C.iH)).1/\(qf E.s C.pos.toNat C.marked.toNat (C.line,C.iH)).1<=C.pos+C.marked+1;have:=ad.1;simp only at this;omega
 .show 1<=(qf E.s C.pos.toNat C.marked.toNat (C.line,C.iH)).2/\(qf E.s C.pos.toNat C.marked.toNat (C.line,C.iH)).2<=C.pos+C.marked+1;have:=ad.2;simp only at this;omega
 .show 0<=C.steps/\C.steps<=(C.pos+C.marked)*vv E+(0+1)*_;omega
 .intro _;show aU E.p.ents (fO r C).toNat<_/\C.steps+f (aU E.p.ents (fO r C).toNat).toNat+1<=(C.pos+C.marked)*vv E+(0+1)*_;omega
 .show ((if r.emit=1 then C.dV++[_] else C.dV).length:Int)<=C.pos+C.marked;have:=h.dV;split
  .rw [la_,List.length_singleton];omega
  .omega
theorem aaq {E:bH} (g:Good E f) {C:bI} (h:OO E C) {e:Int} (he:e=0\/e=5):wD E f (take E C e)/\(take E C e).steps=C.steps:=by
 unfold take;split
 .exact⟨h.TU (by omega),rfl⟩
 .split
  .rename_i hne hw
   have:=Ot E.p E.depth C;exact⟨h.TU (by omega),rfl⟩
  .rename_i hne hw
   have:=sH g h (by omega);exact⟨this.1,this.2.2.2⟩
theorem aci {E:bH} (g:Good E f) {C D:bI} (h:wD E f C) (hm:AY E C=some D):wD E f D/\D.steps=C.steps+1:=by
 unfold AY at hm;split at hm
 .cases hm
 .rename_i hc
  have he:C.err=0:=by
   by_cases e:C.err=0
   .exact e
   .exact absurd (.inl e) hc
  cases hl:look E C with
  | wait=>rw [hl] at hm;cases hm
  | go D'=>rw [hl] at hm;cases hm;have:=Da g h he hl;exact⟨this.1,this.2.2.2.1⟩
  | stop D' e=>rw [hl] at hm;cases hm;have:=rf g h he hl;have t:=aaq g this.1 this.2.2.2.1;exact⟨t.1,by rw [t.2];exact this.2.2.1⟩
theorem qF.inv {E:bH} (g:Good E f) {C D:bI} (r:qF E C D) (h:wD E f C):wD E f D:=by
 induction r with
 | refl=>exact h
 | step _ h2 ih=>exact (aci g ih h2).1
theorem Sb {t:Y_} (hn:n<s.size):bt (s++t) n=bt s n:=by
 unfold bt;have e:(s++t).data.toList=s.data.toList++t.data.toList:=by simp
 rw [e,gd_,gd_,al_ (by simpa using hn)]
theorem Le {s t:Y_} {a:Nat} {q:Int × Int}:∀(n:Nat),a+n<=s.size->qf (s++t) a n q=qf s a n q
 | 0,_=>rfl
 | n+1,h=>by simp only [qf];rw [Le n (by omega),Sb (by omega)]
def bH.on (E:bH) (t:Y_) (b:Bool):bH:={ E with s:=E.s++t,ended:=b }
theorem mh (E:bH) (t:Y_) (b:Bool):(E.on t b).s.size=E.s.size+t.size:=by unfold bH.on;simp
theorem Good.on {E:bH} {f:Nat->Int} (g:Good E f) (t:Y_) (b:Bool):Good (E.on t b) f:=⟨g.right,g.most,g.depth,g.f0,g.f1⟩
theorem wD.on {E:bH} {f:Nat->Int} {C:bI} (h:wD E f C) (t:Y_) (b:Bool):wD (E.on t b) f C:=
 ⟨h.pos,h.looked,by have:=h.within;rw [mh];omega,h.marked,h.ins,h.c,h.rule,h.mode,h.kK,h.iW,h.line,h.iH,h.steps,h.live,h.err,h.dV⟩
theorem Tc {E:bH} {C:bI} (h:wD E f C) (hE:E.ended=false) (t:Y_) (b:Bool) (hl:look E C≠.wait):look (E.on t b) C=look E C:=by
 unfold look at *;have p:=h.pos;have l:=h.looked;simp only [hE] at *;have e1:(E.on t b).p=E.p:=rfl;have e2:(E.on t b).most=E.most:=rfl;have e3:=mh E t b;rw [e1,e2,e3];generalize aO E.p.code C.ins.toNat=x at *;by_cases o1:x.op=1
 .rw [if_pos o1,if_pos o1]
 rw [if_neg o1,if_neg o1];rw [if_neg o1] at hl;by_cases o2:x.op=2
 .rw [if_pos o2] at hl;rw [if_pos o2,if_pos o2];by_cases hs:(E.s.size:Int)<=C.pos+C.looked
  .rw [if_pos hs] at hl;simp at hl
  .rw [if_neg hs,if_neg (by omega)];have:bt (E.on t b).s (C.pos+C.looked).toNat=bt E.s (C.pos+C.looked).toNat:=Sb (by omega);rw [this]
 rw [if_neg o2,if_neg o2]
theorem aeH {E:bH} (g:Good E f) {C D:bI} (h:wD E f C) (hE:E.ended=false) (t:Y_) (b:Bool) (hm:AY E C=some D):AY (E.on t b) C=some D:=by
 unfold AY at *;rw [mh];split at hm
 .cases hm
 .rename_i hc
  have he:C.err=0:=by
   by_cases e:C.err=0
   .exact e
   .exact absurd (.inl e) hc
  have hp:C.pos<E.s.size:=by
   by_cases e:(E.s.size:Int)<=C.pos
   .exact absurd (.inr e) hc
   .omega
  rw [if_neg (by omega)]
  cases hl:look E C with
  | wait=>rw [hl] at hm;cases hm
  | go D'=>rw [Tc h hE t b (by rw [hl];intro q;cases q),hl];rw [hl] at hm;exact hm
  | stop D' e=>
   rw [Tc h hE t b (by rw [hl];intro q;cases q),hl];rw [hl] at hm;cases hm;have hd:=(rf g h he hl).1;have ht:take (E.on t b) D' e=take E D' e:=by unfold take took;have a1:=hd.pos;have a2:=hd.marked;have a3:=hd.within;have e1:(E.on t b).p=E.p:=rfl;have e2:(E.on t b).depth=E.depth:=rfl;have e3:(E.on t b).s=E.s++t:=rfl;rw [e1,e2,e3,Le _ (by omega)]
   show some (take (E.on t b) D' e)=some (take E D' e);rw [ht]
theorem qF.on {E:bH} {f:Nat->Int} (g:Good E f) {C D:bI} (r:qF E C D) (h:wD E f C) (hE:E.ended=false) (t:Y_) (b:Bool):qF (E.on t b) C D:=by
 induction r with
 | refl=>exact .refl _
 | step h1 h2 ih=>exact .step ih (aeH g (h1.inv g h) hE t b h2)
end Pu
open Go.RowKit
def kG (ve vr vc vh:V_) (most depth:Int) (C:bI) (ended:Bool) (fault:Int):List V_:=
 [ve,vr,vc,I_ most,I_ depth,I_ C.pos,I_ C.line,I_ C.iH,I_ C.mode,
  I_ (Pu.aU C.kK 0),I_ (Pu.aU C.kK 1),I_ (Pu.aU C.kK 2),I_ (Pu.aU C.kK 3),I_ (Pu.aU C.kK 4),I_ (Pu.aU C.kK 5),I_ (Pu.aU C.kK 6),I_ (Pu.aU C.kK 7),
  I_ C.iW,I_ C.steps,I_ C.ins,I_ C.c,I_ C.looked,I_ C.rule,I_ C.marked,vh,.bool ended,I_ fault]
structure Lists (w:W_) (p:oC) (ve vr vc:V_):Prop where
 e:w.ownsRow 0 3 1 ve p.ents.length (bY p.ents)
 r:w.ownsRow 0 59 3 vr p.rules.length (eG p.rules)
 c:w.ownsRow 0 61 4 vc p.code.length (dC p.code)
theorem dM {e size:Nat} {xs:List V_} (h:w.ownsRow base e size v n xs) (hb:dh w g t ys) (ht:t≠e) (hg:w.grownBy w' (some g)):w'.ownsRow base e size v n xs:=by
 refine World.ownsRow.kept h hg ?_
 rcases h.2 with ⟨rfl,_⟩ | ⟨g',cap,cur,rfl,_,hgg,_⟩
 .exact .inl rfl
 .right;simp only [Value.ownBlock,ne_eq,Option.some.injEq];intro e;subst e;unfold dh at hb;rw [hgg] at hb;simp at hb;exact ht hb.2.symm
theorem Tx {e size g':Nat} {xs:List V_} (h:w.ownsRow base e size (s_ g' n cap) n xs) (hb:dh w g t ys) (ht:t≠e):g'≠g:=by
 rcases h.2 with ⟨k,_⟩ | ⟨a,b,cur,k,_,hg,_⟩
 .simp at k
 simp only [Value.slice.injEq,Option.some.injEq,Addr.mk.injEq,and_true,true_and] at k;obtain⟨rfl,rfl⟩:=k;intro e1;subst e1;unfold dh at hb;rw [hg] at hb;simp at hb;exact ht hb.2.symm
theorem Lists.on {p:oC} (h:Lists w p ve vr vc) (hb:dh w g t ys) (h1:t≠3) (h2:t≠59) (h3:t≠61) (hg:w.grownBy w' (some g)):Lists w' p ve vr vc:=
 ⟨dM h.e hb h1 hg,dM h.r hb h2 hg,dM h.c hb h3 hg⟩
theorem Lists.below {p:oC} (h:Lists w p ve vr vc) (hb:B_ w w'):Lists w' p ve vr vc:=
 ⟨bU h.e hb di,bU h.r hb di,bU h.c hb di⟩
structure jW (w:W_) (g:Nat) (E:bH) (ve vr vc vh:V_) (C:bI) (fault:Int):Prop where
 fA:dh w g 177 (kG ve vr vc vh E.most E.depth C E.ended fault)
 l:Lists w E.p ve vr vc
theorem jW.below {w w':W_} {g:Nat} {E:bH} {ve vr vc vh:V_} {C:bI} {fault:Int} (m:jW w g E ve vr vc vh C fault) (h:B_ w w'):jW w' g E ve vr vc vh C fault:=
 ⟨bN m.fA h (bO m.fA),m.l.below h⟩
theorem jW.set {w:W_} {g:Nat} {E:bH} {ve vr vc vh vh':V_} {C D:bI} {fault fault':Int} (m:jW w g E ve vr vc vh C fault) (j:Nat) (u:V_) (E':bH) (hp:E'.p=E.p)
  (h:(kG ve vr vc vh E.most E.depth C E.ended fault).set j u=kG ve vr vc vh' E'.most E'.depth D E'.ended fault'):jW (w.setCell (a_ g j) u) g E' ve vr vc vh' D fault':=by
 refine⟨by rw [<-h];exact cO m.fA j u,?_⟩;rw [hp];exact m.l.on m.fA (by decide) (by decide) (by decide) (gs_ w g j u)
theorem jW.drewN {w:W_} {g:Nat} {E:bH} {ve vr vc vh:V_} {C:bI} {fault:Int} (m:jW w g E ve vr vc vh C fault) (n:Nat):jW (w.drewN n) g E ve vr vc vh C fault:=⟨m.fA,⟨m.l.e,m.l.r,m.l.c⟩⟩
theorem jW.drew {w:W_} {g:Nat} {E:bH} {ve vr vc vh:V_} {C:bI} {fault:Int} (m:jW w g E ve vr vc vh C fault):jW w.drew g E ve vr vc vh C fault:=⟨m.fA,⟨m.l.e,m.l.r,m.l.c⟩⟩
theorem jW.alloc {w:W_} {g:Nat} {E:bH} {ve vr vc vh:V_} {C:bI} {fault:Int} (m:jW w g E ve vr vc vh C fault) (o:Obj):jW (w.alloc o) g E ve vr vc vh C fault:=
 m.below (mi o)
theorem jW.frozen {w:W_} {g:Nat} {E:bH} {ve vr vc vh:V_} {C:bI} {fault:Int} (m:jW w g E ve vr vc vh C fault) (j:Nat):w.frozen? (a_ g j)=false:=bL m.fA j
theorem mZ (h:w.grownBy w' row) (n:Nat):w.grownBy (w'.drewN n) row:=⟨h.1,h.2,h.3,h.4,h.5⟩
theorem rJ (h:w.grownBy w' row):w.grownBy w'.drew row:=⟨h.1,h.2,h.3,h.4,h.5⟩
theorem eU (h:w.grownBy w' (some g)) (j:Nat) (u:V_):w.grownBy (w'.setCell (a_ g j) u) (some g):=Lib.grownBy_setB h j u
theorem oZ (h:w.grownBy w' row) (o:Obj):w.grownBy (w'.alloc o) row:=Lib.grownBy_allocR h o
theorem LZ {w'':W_} (h:w.grownBy w' row) (hb:B_ w' w''):w.grownBy w'' row:=Lib.grownBy_below h hb
theorem jW.cell {w:W_} {g:Nat} {E:bH} {ve vr vc vh:V_} {C:bI} {fault:Int} (m:jW w g E ve vr vc vh C fault) {j:Nat} {u:V_} (h:(kG ve vr vc vh E.most E.depth C E.ended fault)[j]?=some u):w.cell? (a_ g j)=some u:=bM m.fA h
theorem qW {vh:V_} {most:Int} {C:bI} {d:Nat} (hd:d<8):(kG ve vr vc vh most depth C ended fault)[9+d]?=some (I_ (Pu.aU C.kK d)):=by
 match d,hd with
 | 0,_=>rfl
 | 1,_=>rfl
 | 2,_=>rfl
 | 3,_=>rfl
 | 4,_=>rfl
 | 5,_=>rfl
 | 6,_=>rfl
 | 7,_=>rfl
theorem G6 {vh:V_} {most:Int} {C:bI} {d:Nat} (hd:d<8) (hl:C.kK.length=8) (x:Int) :
  (kG ve vr vc vh most depth C ended fault).set (9+d) (I_ x)=kG ve vr vc vh most depth { C with kK:=C.kK.set d x } ended fault:=by
 have e:∀k,Pu.aU (C.kK.set d x) k=if k=d then x else Pu.aU C.kK k:=fun k=>uD C.kK d k x 0 (by omega)
 unfold kG;simp only [e]
 match d,hd with
 | 0,_=>rfl
 | 1,_=>rfl
 | 2,_=>rfl
 | 3,_=>rfl
 | 4,_=>rfl
 | 5,_=>rfl
 | 6,_=>rfl
 | 7,_=>rfl
def lV (w:W_) (v:V_) (s:Y_):Prop:=(s.size=0/\v=n_)\/
 ∃b cap cs fr,v=s_ b s.size cap/\s.size<=cap/\cap<=9223372036854775807/\w.heap[b]?=some (c_ cs 5 fr)/\∀j,j<s.size->cs[j]?=some (.int .u8 (bt s j))
theorem lV.on (h:lV w v s) (hb:dh w g t ys) (ht:t≠5) (hg:w.grownBy w' (some g)):lV w' v s:=by
 rcases h with h | ⟨b,cap,cs,fr,h1,h2,h2',h3,h4⟩
 .exact .inl h
 .refine .inr ⟨b,cap,cs,fr,h1,h2,h2',?_,h4⟩;rw [hg.block b (Array.getElem?_eq_some_iff.1 h3).1 ?_]
  .exact h3
  .intro e;cases e
   unfold dh at hb;rw [h3] at hb;simp at hb;exact ht hb.2.1.symm
theorem lV.below (h:lV w v s) (hb:B_ w w'):lV w' v s:=by
 rcases h with h | ⟨b,cap,cs,fr,h1,h2,h2',h3,h4⟩
 .exact .inl h
 .exact .inr ⟨b,cap,cs,fr,h1,h2,h2',by rw [hb.block b (Array.getElem?_eq_some_iff.1 h3).1];exact h3,h4⟩
theorem lV.form (h:lV w v s):∃ao cap,v=.slice ao s.size cap/\s.size<=cap/\cap<=9223372036854775807:=by
 rcases h with ⟨h0,rfl⟩ | ⟨b,cap,cs,fr,rfl,h2,h3,_⟩
 .exact⟨none,0,by rw [h0],by omega,by omega⟩
 .exact⟨_,cap,rfl,h2,h3⟩
theorem Lists.aaf {p:oC} (h:Lists w p ve vr vc) (hp:iy p):(∃ge ce,ve=s_ ge p.ents.length ce/\p.ents.length<=ce/\ce<=9223372036854775807)/\(∃gr cr,vr=s_ gr p.rules.length cr/\p.rules.length<=cr/\cr<=9223372036854775807)/\(∃gc cc,vc=s_ gc p.code.length cc/\p.code.length<=cc/\cc<=9223372036854775807):=
 ⟨dJ h.e (by have:=hp.1.1;omega),dJ h.r (by have:=hp.2.1.1;omega),dJ h.c (by have:=hp.2.2.1.1;omega)⟩
theorem Nq {l:List mJ} (h:w.ownsRow base 59 3 (s_ g n cap) n (eG l)) (hi:i<l.length) :
  w.cell? (a_ g (i*3))=some (I_ (Pu.rg l i).emit)/\w.cell? (a_ g (i*3+1))=some (I_ (Pu.rg l i).act)/\w.cell? (a_ g (i*3+2))=some (I_ (Pu.rg l i).mode):=by
 have q:=tZ l i hi;rw [Nat.mul_comm] at q;exact⟨bT h q.1,bT h q.2.1,bT h q.2.2⟩
theorem JF {l:List Int} (h:w.ownsRow base 3 1 (s_ g n cap) n (bY l)) (hi:i<l.length) :
  w.cell? (a_ g i)=some (I_ (Pu.aU l i)):=bT h (qO l i hi)
namespace Pu
def qH (s:Y_):List Nat:=(List.range s.size).map (fun i=>(bt s i).toNat)
theorem Ki (s:Y_):(qH s).length=s.size:=by simp [qH]
theorem acZ (h:i<s.size):(qH s).getD i 0=(bt s i).toNat:=by unfold qH;rw [gd_,gm_,List.getElem?_range h];rfl
theorem Df (s:Y_):∀c∈qH s,c<256:=by intro c hc;unfold qH at hc;obtain⟨i,_,rfl⟩:=List.mem_map.1 hc;have:=iC s i;omega
def Og (y:aF) (s:Y_) (p:Nat->Bool) (i:Nat):Nat->Bool:=fun q=>decide (1<=q) && (decide (q<=i) && (p (q-1) && y.inn (bt s (q-1)).toNat))
theorem acS {y:aF} {p:Nat->Bool} {q:Nat} (hq:q<s.size+2):uf (Og y s p s.size) (s.size+1) ((List.range 256).any y.inn && (p s.size || p (s.size+1))) q=zY y (qH s) p q:=by
 unfold uf zY;rw [Ki];by_cases c1:q=s.size+1
 .rw [if_pos c1,if_pos c1]
 .rw [if_neg c1,if_neg c1];unfold Og;by_cases c2:q=0
  .rw [if_pos c2,c2];rfl
  .rw [if_neg c2,dt_ (show 1<=q by omega),dt_ (show q<=s.size by omega),Bool.true_and,Bool.true_and,acZ (by omega)]
end Pu
theorem YJ (h:n<s.size):wrap64 ((s[n]'h).toNat:Int)=bt s n:=by
 have e:bt s n=((s[n]'h).toNat:Int):=by have h':n<s.data.size:=h;unfold bt;rw [gd_,gg_ (by simpa using h')];rfl
 rw [<-e];have:=iC s n;unfold wrap64;omega
theorem Wv (y:aF) (s:Y_) (gp L:Nat) (p:Nat->Bool) (w:W_) (hp:Bl w gp L p) (hL:L=s.size+2) (hs:s.size<=1000) :
  C_ 165 #[.agg (dN y).toArray,.string s,s_ gp L L] w (Ry L (zY y (qH s) p) w):=by
 have hmk:=qx L (by omega);have l0:s.size+1<L:=by omega
 have b1:=(Br_ w.heap.size w).alloc di (c_ (dN y).toArray 161);have x1:dh (w.alloc (c_ (dN y).toArray 161)) w.heap.size 161 (dN y):=hn_ _ _;have B1:Hid (B_ w ((w.alloc (c_ (dN y).toArray 161)).alloc (c_ (qM L (fun _=>false)).toArray 4))):=b1.alloc (by simp) _;have X1:Hid (dh ((w.alloc (c_ (dN y).toArray 161)).alloc (c_ (qM L (fun _=>false)).toArray 4)) w.heap.size 161 (dN y)):=dx x1 _;have O1:Hid (Bl ((w.alloc (c_ (dN y).toArray 161)).alloc (c_ (qM L (fun _=>false)).toArray 4)) (w.heap.size+1) L (fun _=>false)):=by have:=hn_ (w.alloc (c_ (dN y).toArray 161)) (c_ (qM L (fun _=>false)).toArray 4);simp only [wa_] at this;exact this
 have HP:=bK hp;have HL:=bK hL;have pl:=bO hp;clear hp hL b1 x1;go_enter Tryz.func165,Tryz.ntmps165
 go_wp2_with fail
 clear hmk;generalize (w.alloc (c_ (dN y).toArray 161)).alloc (c_ (qM L (fun _=>false)).toArray 4)=W1 at *;have GO:Hid (w.heap.size<=w.heap.size+1):=Nat.le_succ _;generalize w.heap.size+1=go at *
 go_loopg [8,9] 256 (fun gk bv cv wx=>∃(c:Nat),c<=256/\gk=256-c/\bv=.bool ((List.range c).any y.inn)/\cv=I_ c/\wx=W1)
 case atStart=>exact⟨0,by omega,rfl,rfl,rfl,rfl⟩
 case round=>
  obtain⟨c,cl,rfl,rfl,rfl,rfl⟩:=hrel;by_cases hc:c<256
  .have d1:decide ((c:Int)<256)=true:=dt_ (by omega);have wc:=kg c;have c0:=jg c;have c1:(c:Int)<256:=by omega
   have q:wr.cell? (a_ w.heap.size (3+c))=some (.bool (y.inn c)):=bM X1.o (by show (_::_::_::cK y.inn)[3+c]?=_;rw [show 3+c=c+1+1+1 by omega,cs_,cs_,cs_];exact gD _ hc);have NX:Hid ((List.range (c+1)).any y.inn=((List.range c).any y.inn || y.inn c)):=by show _=_;rw [List.range_succ,List.any_append];simp
   generalize (List.range c).any y.inn=b at *;generalize y.inn c=ic at *
   cases b with
   | true=>?_
   | false=>?_
   all_goals
    go_wp2;go_roundg (256-(c+1))
    case measure=>omega
    case rel=>exact⟨c+1,by omega,rfl,by rw [NX.o];rfl,by go_num,rfl⟩
  .have d1:decide ((c:Int)<256)=false:=dn_ (by omega);have ec:c=256:=by omega
   subst ec
   go_wp2_with fail
   go_loopg [10] s.size (fun gk iv wx=>∃(i:Nat),i<=s.size/\gk=s.size-i/\iv=I_ i/\B_ w wx/\dh wx w.heap.size 161 (dN y)/\Bl wx go L (Og y s p i))
   case atStart=>exact⟨0,zl_ _,rfl,rfl,B1.o,X1.o,O1.o.congr (fun q _=>by unfold Og;by_cases h:1<=q <;> simp [h];omega)⟩
   case round=>
    clear B1 X1 O1;obtain⟨i,il,rfl,rfl,hb,hx,ho⟩:=hrel;have HB:=bK hb;have HX:=bK hx;have HO:=bK ho;by_cases hi:i<s.size
    .have d2:=nV i s.size;have wi:=kg i;have aS:=jg i;have i1:(i:Int)<s.size:=by omega
     have i2:(i:Int)<L:=by omega
     have j0:(0:Int)<=i+1:=by omega
     have j1:(i:Int)+1<(L:Int):=by omega
     have cp:=bM (bN HP.o hb pl) (gH p (show i<L by omega));have co:=bM ho (gH _ (show i+1<L by omega));have fo:=bL ho (i+1);have gbt:=YJ hi;have bb:=iC s i;obtain⟨b,hbb⟩:∃b:Nat,bt s i=(b:Int):=⟨(bt s i).toNat,by omega⟩;have b0:=jg b;have b1:(b:Int)<256:=by omega
     have qi:wr.cell? (a_ w.heap.size (3+b))=some (.bool (y.inn b)):=bM hx (by show (_::_::_::cK y.inn)[3+b]?=_;rw [show 3+b=b+1+1+1 by omega,cs_,cs_,cs_];exact gD _ (by omega))
     have SET:Hid (∀v,v=(p i && y.inn b)->Bl (wr.setCell (a_ go (i+1)) (.bool v)) go L (Og y s p (i+1))):=fun v hv=>(HO.o.set (i+1) v).congr (fun q _=>by
      unfold uf Og;by_cases e:q=i+1
      .subst e;rw [if_pos rfl,hv,dt_ (show 1<=i+1 by omega),dt_ di,Nat.add_sub_cancel,hbb];simp
      .rw [if_neg e,show decide (q<=i+1)=decide (q<=i) by rw [decide_eq_decide];omega])
     have BS:Hid (∀v,B_ w (wr.setCell (a_ go (i+1)) (.bool v))):=fun v=>HB.o.setCell GO.o _
     have XS:Hid (∀v,dh (wr.setCell (a_ go (i+1)) (.bool v)) w.heap.size 161 (dN y)):=fun v=>bQ HX.o (gs_ wr go (i+1) (.bool v)) (fun e=>dD HX.o HO.o (by decide) (oi_ e))
     rw [hbb] at gbt;clear hb hx ho hbb bb HO HX HB;generalize y.inn b=ib at *;generalize p i=pi at *;generalize Og y s p i (i+1)=old at *
     cases pi with
     | true=>?_
     | false=>?_
     focus have R:=bK (SET.o ib (by simp))
     rotate_left
     focus have R:=bK (SET.o false rfl)
     all_goals
      clear SET;go_wp2;go_roundg (s.size-(i+1))
      case measure=>omega
      case rel=>exact⟨i+1,by omega,rfl,by go_num,BS.o _,XS.o _,R.o⟩
    .have d2:=mM i s.size;have ei:i=s.size:=by omega
     subst ei;have ws:=xF ((s.size:Int)+1);have s0:(0:Int)<=s.size:=by omega
     have s1:(s.size:Int)<L:=by omega
     have t0:(0:Int)<=s.size+1:=by omega
     have t1:(s.size:Int)+1<(L:Int):=by omega
     have cp:=bM (bN HP.o hb pl) (gH p (show s.size<L by omega));have cq:=bM (bN HP.o hb pl) (gH p l0);have co:=bM ho (gH _ l0);have fo:=bL ho (s.size+1)
     have SET:Hid (∀v,v=((List.range 256).any y.inn && (p s.size || p (s.size+1)))->Bl (wr.setCell (a_ go (s.size+1)) (.bool v)) go L (zY y (qH s) p)):=fun v hv=>(HO.o.set (s.size+1) v).congr (fun q hq=>by
      rw [hv]
      exact acS (by rw [<-HL.o];exact hq))
     have BS:Hid (∀v,B_ w (wr.setCell (a_ go (s.size+1)) (.bool v))):=fun v=>HB.o.setCell GO.o _
     clear hb hx ho HO HX HB;generalize Og y s p s.size (s.size+1)=old at *;generalize (List.range 256).any y.inn=sm at *;generalize p s.size=pa at *;generalize p (s.size+1)=pb at *
     cases sm with
     | false=>have R:=bK (SET.o false rfl);clear SET;go_wp2;go_ret;exact⟨_,rfl,BS.o _,GO.o,R.o⟩
     | true=>
      cases pa with
      | true=>have R:=bK (SET.o true rfl);clear SET;go_wp2;go_ret;exact⟨_,rfl,BS.o _,GO.o,R.o⟩
      | false=>have R:=bK (SET.o pb (by simp));clear SET;go_wp2;go_ret;exact⟨_,rfl,BS.o _,GO.o,R.o⟩
end Go.Proofs.YtmccnmgaoppogaaGreat
