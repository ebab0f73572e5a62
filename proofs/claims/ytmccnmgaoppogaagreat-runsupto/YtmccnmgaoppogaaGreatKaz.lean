import Derived.Test.YtmccnmgaoppogaaGreatX8
namespace Go.Proofs.YtmccnmgaoppogaaGreat
open Pu
set_option linter.all false
set_option maxRecDepth 100000
set_option maxHeartbeats 8000000
variable {fE g2 n:Nat} {w2:W_} {s:Nat->Bool} {S:List (Nat->Bool)}
namespace Pu
theorem akk:∀(x:aM) {m k:Nat} {y:aF},(nodes x m)[k]?=some y->(y.kind=1\/y.kind=2\/y.kind=3\/y.kind=4\/y.kind=5\/y.kind=6)/\(y.kind=2\/y.kind=3->y.l<y.r):=by
 have two:∀(a b:aM) (top:Nat) (m k:Nat) (y:aF),(top=2\/top=3)->(∀{m k:Nat} {y:aF},(nodes a m)[k]?=some y->(y.kind=1\/y.kind=2\/y.kind=3\/y.kind=4\/y.kind=5\/y.kind=6)/\(y.kind=2\/y.kind=3->y.l<y.r))->(∀{m k:Nat} {y:aF},(nodes b m)[k]?=some y->(y.kind=1\/y.kind=2\/y.kind=3\/y.kind=4\/y.kind=5\/y.kind=6)/\(y.kind=2\/y.kind=3->y.l<y.r))->
   (nodes a m++nodes b (m+a.size)++[⟨top,m+a.size-1,m+a.size+b.size-1,dP⟩])[k]?=some y->(y.kind=1\/y.kind=2\/y.kind=3\/y.kind=4\/y.kind=5\/y.kind=6)/\(y.kind=2\/y.kind=3->y.l<y.r):=by
  intro a b top m k y ht iha ihb h;have pa:=a.size_pos;have pb:=b.size_pos;by_cases c1:k<a.size
  .rw [aa_,al_ (by rw [bR];exact c1)] at h;exact iha h
  .by_cases c2:k<a.size+b.size
   .rw [aa_,ar_ (by rw [bR];omega),bR,al_ (by rw [bR];omega)] at h;exact ihb h
   .have hl:=(ge_.1 h).1;simp only [la_,bR,lc_,ln_] at hl;have e:k=a.size+b.size:=by omega
    subst e;rw [ar_ (by simp [bR])] at h;simp [bR] at h;subst h;exact⟨by show top=1\/top=2\/top=3\/top=4\/top=5\/top=6;omega,fun _=>by show m+a.size-1<m+a.size+b.size-1;omega⟩
 have one:∀(a:aM) (top:Nat) (m k:Nat) (y:aF),(top=4\/top=5\/top=6)->(∀{m k:Nat} {y:aF},(nodes a m)[k]?=some y->(y.kind=1\/y.kind=2\/y.kind=3\/y.kind=4\/y.kind=5\/y.kind=6)/\(y.kind=2\/y.kind=3->y.l<y.r))->
   (nodes a m++[⟨top,m+a.size-1,0,dP⟩])[k]?=some y->(y.kind=1\/y.kind=2\/y.kind=3\/y.kind=4\/y.kind=5\/y.kind=6)/\(y.kind=2\/y.kind=3->y.l<y.r):=by
  intro a top m k y ht iha h;by_cases c1:k<a.size
  .rw [al_ (by rw [bR];exact c1)] at h;exact iha h
  .have hl:=(ge_.1 h).1;simp only [la_,bR,lc_,ln_] at hl;have e:k=a.size:=by omega
   subst e;rw [ar_ (by rw [bR];omega)] at h;simp [bR] at h;subst h;exact⟨by show top=1\/top=2\/top=3\/top=4\/top=5\/top=6;omega,fun hh=>by have:top=2\/top=3:=hh;omega⟩
 intro x
 induction x with
 | pl T=>
  intro m k y h
  cases k with
  | zero=>simp [nodes] at h;subst h;exact⟨.inl rfl,fun hh=>by have:(1:Nat)=2\/(1:Nat)=3:=hh;omega⟩
  | succ k=>simp [nodes] at h
 | cat a b iha ihb=>intro m k y h;exact two a b 2 m k y (.inl rfl) iha ihb h
 | alt a b iha ihb=>intro m k y h;exact two a b 3 m k y (.inr rfl) iha ihb h
 | star a ih=>intro m k y h;exact one a 4 m k y (.inl rfl) ih h
 | plus a ih=>intro m k y h;exact one a 5 m k y (.inr (.inl rfl)) ih h
 | opt a ih=>intro m k y h;exact one a 6 m k y (.inr (.inr rfl)) ih h
theorem xU.ndK {ls:List aC} {ns:List aF} (h:xU ls ns) {i:Nat} {y:aF} (hi:ns[i]?=some y):NdK ns.length i y:=by
 obtain⟨k,x,h1,h2,h3,h4⟩:=h.line hi;have k2:=akk x.re h4;refine⟨mY hi,k2.1,fun k1=>?_,fun k1=>?_⟩
 .have:=(Kn x.re h4 k1).1;omega
 .have:=(Kn x.re h4 (by omega)).2 k1;exact⟨by omega,k2.2 k1⟩
end Pu
open Go.RowKit
theorem zm:(Tryz.prog.info? 203).map (fun i=>(i.zero,i.size,i.bytes))=some (some n_,1,24):=by kernel_rfl
theorem tC (a:Option Addr) (n c:Nat):Instr.fill (fun i=>some (i*1,1)) ((Array.range (1*1)).map fun j=>((n_).cells)[j % (n_).cells.size]!) [(0,.slice a n c)]=some #[.slice a n c]:=by rw [ru];rfl
abbrev qV (W:W_) (n:Nat):W_:=((W.alloc (c_ (qM n (fun _=>false)).toArray 4)).alloc (c_ #[s_ W.heap.size n n] 203)).drew
theorem jC (W:W_) (n:Nat):B_ W (qV W n):=((mi _).alloc (by simp) _).drew
theorem xx (W:W_) (n:Nat):Bl (qV W n) W.heap.size n (fun _=>false):=dx (hn_ W _) _
theorem acf (n:Nat):madeCells (n_).cells (n*1)=(List.replicate n n_).toArray:=by unfold madeCells;refine Array.ext (by simp) (fun i h1 h2=>?_);simp [Value.cells,Nat.mod_one]
theorem acg (n:Nat) (hn:n<=100000) (w:W_):(Instr.makeSlice 102 (I_ n) (I_ n)).run Tryz.prog w=.ok (s_ w.heap.size n n) (w.alloc (c_ (Array.replicate n n_) 203)):=by obtain⟨i,h1,h2,h3,h4⟩:=ip_ zm;have:=run_make (P:=Tryz.prog) w 102 203 i n_ Tryz.underlying102 h1 h2 .i64 .i64 (n:Int) (n:Int) (by omega) (Int.le_refl _) (by rw [h4];omega) (by omega);rw [this,h3,tn_,acf];rfl
theorem zT (W:W_) (n:Nat):dh (qV W n) (W.alloc (c_ (qM n (fun _=>false)).toArray 4)).heap.size 203 [s_ W.heap.size n n]:=
 hn_ (W.alloc (c_ (qM n (fun _=>false)).toArray 4)) (c_ #[s_ W.heap.size n n] 203)
structure GP (w:W_) (g r gg n:Nat) (vf:V_) (gs:List Nat) (W:W_):Prop where
 b:dh W gg 202 [p_ g,vf]
 own:W.ownsRow w.heap.size 203 1 vf gs.length (mX n gs)
 row:∀g'∈gs,Bl W g' n (fun _=>false)
 nd:gs.Nodup
 be:B_ w W
 gl:w.heap.size<=gg
 aY:dh W r 163 [n_,n_,n_]
 rl:w.heap.size<=r
 lo:∀g'∈gs,w.heap.size<=g'
section
variable {w:W_} {g r gg n:Nat} {vf:V_} {gs:List Nat} {W W':W_}
theorem GP.below (h:GP w g r gg n vf gs W) (hb:B_ W W'):GP w g r gg n vf gs W':=
 ⟨bN h.b hb (bO h.b),bU h.own hb di,fun g' hg=>bN (h.row g' hg) hb (bO (h.row g' hg)),h.nd,h.be.trans (hb.mono h.be.size),h.gl,bN h.aY hb (bO h.aY),h.rl,h.lo⟩
theorem GP.add (h:GP w g r gg n vf gs W) (ho:w2.ownsRow w.heap.size 203 1 (s_ g2 (gs.length+1) fE) (gs.length+1) (mX n gs++[s_ W.heap.size n n])) (hg:(qV W n).grownBy w2 vf.ownBlock) :
  GP w g r gg n (s_ g2 (gs.length+1) fE) (gs++[W.heap.size]) (w2.setCell (a_ gg 1) (s_ g2 (gs.length+1) fE)):=by
 have h2:=h.below (jC W n);have hs:=gs_ w2 gg 1 (s_ g2 (gs.length+1) fE);have b2:=dR h2.own h2.b (by decide) hg;have r2:=dR h2.own h2.aY (by decide) hg;refine⟨cO b2 1 _,?_,fun g' hm=>?_,?_,?_,h.gl,?_,h.rl,fun g' hm=>?_⟩
 .have:=dA ho b2 (by decide) hs;rw [la_,sS];exact this
 .have k:Bl (qV W n) g' n (fun _=>false):=by
   rcases ma_.1 hm with hm | hm
   .exact h2.row g' hm
   .simp at hm;subst hm;exact xx W n
  have k2:=dR h2.own k (by decide) hg;exact bQ k2 hs (fun e=>dD k2 b2 (by decide) (oi_ e))
 .rw [List.nodup_append];refine⟨h.nd,by simp,fun a ha b hb=>?_⟩;simp at hb;subst hb;have:=bO (h.row a ha);omega
 .have hl:w.heap.size<=(qV W n).heap.size:=lt_ h.be.size (jC W n).size;have c1:B_ w w2:=h2.be.grown hg hl (fun k e=>(ol_ h2.own k e).1);exact c1.grown hs c1.size (fun k e=>by cases e;exact h.gl)
 .exact bQ r2 hs (fun e=>dD r2 b2 (by decide) (oi_ e))
 .rcases ma_.1 hm with hm | hm
  .exact h.lo g' hm
  .simp at hm;subst hm;exact h.be.size
end
theorem De {w w':W_} {base e size:Nat} {v:V_} {xs:List V_} {row:Option Nat} (h:w.ownsRow base e size v n xs) (hne:∀k,v.ownBlock=some k->some k≠row) (hg:w.grownBy w' row):w'.ownsRow base e size v n xs:=by
 refine⟨h.1,?_⟩;rcases h.2 with h0 | ⟨g',cap,cur,h1,h2,h3,h4⟩
 .exact .inl h0
 .refine .inr ⟨g',cap,cur,h1,h2,?_,h4⟩;rw [hg.block g' (Array.getElem?_eq_some_iff.1 h3).1 (hne g' (by rw [h1];rfl))];exact h3
structure ML (w:W_) (ls:List aC) (mode:Int) (g r gg gf cap n gl B1 i gF:Nat) (gs:List Nat) (Kq:List V_) (W:W_):Prop where
 be:B_ w W
 gf':Gf W gg g gf cap n gs (Eh ls mode i)
 fi:Bl W gF n (Cn ls mode i)
 la:dh W gl 203 Kq
 ll:Kq.length=ls.length
 lr:∀(j:Nat) (x:aC),ls[j]?=some x->∃v,Kq[j]?=some v/\(j<i/\x.mode=mode->∃g',v=cZ g' n/\B1<=g'/\Bl W g' n (Pu.Ko x.re (dK (ls.take j))))/\(¬(j<i/\x.mode=mode)->v=n_)
 aY:dh W r 163 [n_,n_,n_]
 rl:w.heap.size<=r
 up:∀g'∈gs,g'<B1
 fl:B1<=gF
 lo:B1<=gl
 wb:w.heap.size<=B1
 gw:∀g'∈gs,w.heap.size<=g'
 gfl:gf<B1
section
variable {w:W_} {ls:List aC} {mode:Int} {g r gg gf cap n gl B1 i gF:Nat} {gs:List Nat} {Kq:List V_} {W W':W_}
theorem ML.below (h:ML w ls mode g r gg gf cap n gl B1 i gF gs Kq W) (hb:B_ W W'):ML w ls mode g r gg gf cap n gl B1 i gF gs Kq W':=
 ⟨h.be.trans (hb.mono h.be.size),h.gf'.below hb,bN h.fi hb (bO h.fi),bN h.la hb (bO h.la),h.ll,fun j x hj=>by
  obtain⟨v,h1,h2,h3⟩:=h.lr j x hj;refine⟨v,h1,fun c=>?_,h3⟩;obtain⟨g',e1,e2,e3⟩:=h2 c
  exact⟨g',e1,e2,bN e3 hb (bO e3)⟩,bN h.aY hb (bO h.aY),h.rl,h.up,h.fl,h.lo,h.wb,h.gw,h.gfl⟩
theorem ML.skip (h:ML w ls mode g r gg gf cap n gl B1 i gF gs Kq W) {x:aC} (hx:ls[i]?=some x) (hm:x.mode≠mode):ML w ls mode g r gg gf cap n gl B1 (i+1) gF gs Kq W:=by
 refine⟨h.be,h.gf'.congr (fun a c _ _=>?_),h.fi.congr (fun k _=>?_),h.la,h.ll,fun j y hj=>?_,h.aY,h.rl,h.up,h.fl,h.lo,h.wb,h.gw,h.gfl⟩
 .show _=(Eh ls mode i a c || Pu.foL ls mode i a c);unfold Pu.foL;rw [hx];simp [hm]
 .show _=(Cn ls mode i k || Pu.fiL ls mode i k);unfold Pu.fiL;rw [hx];simp [hm]
 .obtain⟨v,h1,h2,h3⟩:=h.lr j y hj;refine⟨v,h1,fun c=>h2 ⟨?_,c.2⟩,fun c=>h3 (fun c'=>c ⟨by omega,c'.2⟩)⟩;by_cases e:j=i
  .subst e;rw [hx] at hj;cases hj;exact absurd c.2 hm
  .omega
theorem Gk.uo {B:Nat} (hk:Gk gs W W') (hg:∀g'∈gs,B<=g'):Below B w W->B<=W.heap.size->Below B w W':=by intro h hs;exact⟨hk.os.trans h.os,hk.tape.trans h.tape,hk.output.trans h.output,lt_ h.size hk.size,fun k hkl=>(hk.block k (Nat.lt_of_lt_of_le hkl hs) (fun e=>by have:=hg _ e;omega)).trans (h.block k hkl)⟩
theorem ML.marked (h:ML w ls mode g r gg gf cap n gl B1 i gF gs Kq W) (hk:Gk gs W W') {Gm:Nat->Nat->Bool} (hf:Gf W' gg g gf cap n gs Gm) {x:aC} (hx:ls[i]?=some x) (hm:x.mode=mode) (hfo:∀a c,Gm a c=(Eh ls mode i a c || Pu.CU x.re (dK (ls.take i)) a c)) {gF' gb:Nat} {W2:W_} (hb:B_ W' W2) (hF:Bl W2 gF' n (fun k=>Cn ls mode i k || Pu.Gy x.re (dK (ls.take i)) k)) (lF:B1<=gF') (hbb:Bl W2 gb n (Pu.Ko x.re (dK (ls.take i)))) (lb:B1<=gb) :
  ML w ls mode g r gg gf cap n gl B1 (i+1) gF' gs (Kq.set i (cZ gb n)) (W2.setCell (a_ gl i) (cZ gb n)):=by
 have nlo:∀k,B1<=k->k∉gs:=fun k hk' e=>by have:=h.up _ e;omega
 have la1:=hk.fA h.la (nlo _ h.lo);have la2:=bN la1 hb (bO la1);have r1:=hk.fA h.aY (h.gf'.Tm h.aY (by decide));have r2:=bN r1 hb (bO r1);have hs:=gs_ W2 gl i (cZ gb n)
 have f2:=(hf.below hb)
 have be1:=hk.uo h.gw h.be (lt_ h.wb (ll_ (Nat.lt_of_le_of_lt h.lo (bO h.la))));have Lh:B_ w W2:=be1.trans (hb.mono be1.size);have il:i<Kq.length:=by rw [h.ll];exact Pu.mY hx
 refine⟨Lh.grown hs Lh.size (fun k e=>by cases e;exact lt_ h.wb h.lo),?_,?_,cO la2 i _,by rw [le_];exact h.ll,fun j y hj=>?_,?_,h.rl,h.up,lF,h.lo,h.wb,h.gw,h.gfl⟩
 .refine Gf.congr (fo:=Gm) ⟨bQ f2.b hs (fun e=>dD f2.b la2 (by decide) (oi_ e)),?_,f2.len,fun j g' e=>bQ (f2.row j g' e) hs (fun e'=>dD (f2.row j g' e) la2 (by decide) (oi_ e')),f2.nd⟩ (fun a c _ _=>?_)
  .exact De f2.own (fun k e e'=>by have h1:gf=k:=oi_ e;have h2:=oi_ e';have:=h.gfl;have:=h.lo;omega) hs
  .rw [hfo];show _=(Eh ls mode i a c || Pu.foL ls mode i a c);unfold Pu.foL;rw [hx];simp [hm]
 .refine (Bl.congr (f:=fun k=>Cn ls mode i k || Pu.Gy x.re (dK (ls.take i)) k) (bQ hF hs (fun e=>dD hF la2 (by decide) (oi_ e))) (fun k _=>?_));show _=(Cn ls mode i k || Pu.fiL ls mode i k);unfold Pu.fiL;rw [hx];simp [hm]
 .by_cases e:j=i
  .subst e;rw [hx] at hj;cases hj;refine⟨cZ gb n,by rw [List.getElem?_set_self il],fun _=>⟨gb,rfl,lb,bQ hbb hs (fun e=>dD hbb la2 (by decide) (oi_ e))⟩,fun c=>absurd ⟨ls_ _,hm⟩ c⟩
  .obtain⟨v,h1,h2,h3⟩:=h.lr j y hj;refine⟨v,by rw [List.getElem?_set_ne (fun a=>e a.symm)];exact h1,fun c=>?_,fun c=>h3 (fun c'=>c ⟨by omega,c'.2⟩)⟩;obtain⟨g',e1,e2,e3⟩:=h2 ⟨by omega,c.2⟩;have e4:=hk.fA e3 (nlo _ e2);have e5:=bN e4 hb (bO e4);exact⟨g',e1,e2,bQ e5 hs (fun e=>dD e5 la2 (by decide) (oi_ e))⟩
 .exact bQ r2 hs (fun e=>dD r2 la2 (by decide) (oi_ e))
end
theorem jr {w:W_} {ops:Array Oper} {rest:List Oper} {o:Oper} {a:Act} {Q:Exit->Act->W_->Prop} (hgd:o.guard=none) (s x:Operand) (t e:TypeId)
  (ho:o.op=.call { callee:=.builtin .append,args:=#[s,x],argTypes:=#[t,t] }) (z:V_) (bytes:Nat) (hu:Tryz.prog.underlying t=some (.slice e)) (hi:(Tryz.prog.info? e).map (fun i=>(i.zero,i.size,i.bytes))=some (some z,1,bytes)) (hzc:z.cells.size=1) (hby:bytes<=24)
  (base:Nat) (v:V_) (vs:List V_) (hs:a.eval s=v) (fH:w.ownsRow base e 1 v vs.length vs)
  (gx:Nat) (q:V_) (hx:a.eval x=s_ gx 1 1) (hb:dh w gx e [q]) (hq:q.oneCell'=true) (kU:vs.length<=1000) (nX:base<=w.heap.size)
  (h:∀v' w',w'.ownsRow base e 1 v' (vs++[q]).length (vs++[q])->w.grownBy w' v.ownBlock->wpList Tryz.prog ops Q rest (a.put o.dst v') w'):wpList Tryz.prog ops Q (o::rest) a w:=by
 obtain⟨il,hil,hl0,hl1,hl2⟩:=ip_ hi;refine wo_ _ hgd s x t ho base e il _ 1 bytes hu hil hl0 hl1 hl2 hzc (by decide) v vs.length vs hs fH (a_ gx 0) 1 1 [q] hx rfl ?_ (fun u hu=>by simp at hu;rw [hu];exact hq) (by unfold maxLen;omega) ?_ nX ?_
 .intro j y hy;have:=bM hb hy;simpa [add_eq] using this
 .have:(vs.length+1)*bytes<=1001*24:=Nat.mul_le_mul (by omega) hby;omega
 .intro v' w' h1 h2 _;refine h v' w' ?_ h2;rw [la_];exact h1
theorem Ve:(Tryz.prog.info? 31).map (fun i=>(i.zero,i.size,i.bytes))=some (some n_,1,24):=by kernel_rfl
theorem xN:(Tryz.prog.info? 3).map (fun i=>(i.zero,i.size,i.bytes))=some (some (I_ 0),1,8):=by kernel_rfl
structure MS (W1:W_) (n go:Nat) (vS vT vR:V_) (vM:List Nat) (S:List (Nat->Bool)) (ts rs:List V_) (W:W_):Prop where
 be:B_ W1 W
 b:dh W go 163 [vS,vT,vR]
 s:Bls W1.heap.size W vS n vM S
 t:W.ownsRow W1.heap.size 31 1 vT ts.length ts
 r:W.ownsRow W1.heap.size 3 1 vR rs.length rs
 lo:W1.heap.size<=go
section
variable {W1 W W' w2:W_} {n go:Nat} {vS vT vR v2:V_} {vM:List Nat} {S:List (Nat->Bool)} {ts rs:List V_}
theorem MS.below (h:MS W1 n go vS vT vR vM S ts rs W) (hb:B_ W W'):MS W1 n go vS vT vR vM S ts rs W':=
 ⟨h.be.trans (hb.mono h.be.size),bN h.b hb (bO h.b),h.s.below hb,bU h.t hb di,bU h.r hb di,h.lo⟩
theorem MS.grow (h:MS W1 n go vS vT vR vM S ts rs W) {Bt k:Nat} {vt:V_} {xs:List V_} (ho:W.ownsRow Bt 3 1 vt k xs) (hlt:∀b,vR.ownBlock=some b->b<Bt) (hB:W1.heap.size<=Bt) (hg:W.grownBy W' vt.ownBlock):MS W1 n go vS vT vR vM S ts rs W':=
 ⟨h.be.grown hg h.be.size (fun k e=>lt_ hB (ol_ ho k e).1),dR ho h.b (by decide) hg,⟨fI h.s.own ho (by decide) hg,h.s.len,fun i g f h1 h2=>dR ho (h.s.row i g f h1 h2) (by decide) hg⟩,fI h.t ho (by decide) hg,De h.r (fun k e e'=>by have:=hlt k e;have:=(ol_ ho k e'.symm).1;omega) hg,h.lo⟩
theorem MS.aea (h:MS W1 n go vS vT vR vM S ts rs W) {gN:Nat} (hs:Bl W gN n s) (ho:w2.ownsRow W1.heap.size 203 1 v2 (mX n vM++[cZ gN n]).length (mX n vM++[cZ gN n])) (hg:W.grownBy w2 vS.ownBlock) :
  MS W1 n go v2 vT vR (vM++[gN]) (S++[s]) ts rs (w2.setCell (a_ go 0) v2):=by
 have b2:=dR h.s.own h.b (by decide) hg;have g2:=gs_ w2 go 0 v2;have Lh:B_ W1 w2:=h.be.grown hg h.be.size (fun k e=>(ol_ h.s.own k e).1);refine⟨Lh.grown g2 Lh.size (fun k e=>by cases e;exact h.lo),cO b2 0 _,⟨?_,by simp [h.s.len],fun i g f h1 h2=>?_⟩,dA (fI h.t h.s.own (by decide) hg) b2 (by decide) g2,dA (fI h.r h.s.own (by decide) hg) b2 (by decide) g2,h.lo⟩
 .have:=dA ho b2 (by decide) g2;rw [sS,la_];rw [la_,wM] at this;exact this
 .have k1:Bl W g n f:=by
   rcases sw h1 with ⟨hl,h1'⟩ | ⟨e1,e2⟩
   .refine h.s.row i g f h1' ?_
    rw [al_ (by rw [<-h.s.len];exact hl)] at h2;exact h2
   .subst e2;rw [e1,h.s.len] at h2;simp at h2;rw [<-h2];exact hs
  have k2:=dR h.s.own k1 (by decide) hg;exact bQ k2 g2 (fun e=>dD k2 b2 (by decide) (oi_ e))
theorem MS.ajA (h:MS W1 n go vS vT vR vM S ts rs W) {q:V_} (ho:w2.ownsRow W1.heap.size 31 1 v2 (ts++[q]).length (ts++[q])) (hg:W.grownBy w2 vT.ownBlock) :
  MS W1 n go vS v2 vR vM S (ts++[q]) rs (w2.setCell (a_ go 1) v2):=by
 have b2:=dR h.t h.b (by decide) hg;have g2:=gs_ w2 go 1 v2;have Lh:B_ W1 w2:=h.be.grown hg h.be.size (fun k e=>(ol_ h.t k e).1);refine⟨Lh.grown g2 Lh.size (fun k e=>by cases e;exact h.lo),cO b2 1 _,⟨dA (fI h.s.own h.t (by decide) hg) b2 (by decide) g2,h.s.len,fun i g f h1 h2=>?_⟩,dA ho b2 (by decide) g2,dA (fI h.r h.t (by decide) hg) b2 (by decide) g2,h.lo⟩;have k2:=dR h.t (h.s.row i g f h1 h2) (by decide) hg;exact bQ k2 g2 (fun e=>dD k2 b2 (by decide) (oi_ e))
theorem MS.ad9 (h:MS W1 n go vS vT vR vM S ts rs W) {q:V_} (ho:w2.ownsRow W1.heap.size 3 1 v2 (rs++[q]).length (rs++[q])) (hg:W.grownBy w2 vR.ownBlock) :
  MS W1 n go vS vT v2 vM S ts (rs++[q]) (w2.setCell (a_ go 2) v2):=by
 have b2:=dR h.r h.b (by decide) hg;have g2:=gs_ w2 go 2 v2;have Lh:B_ W1 w2:=h.be.grown hg h.be.size (fun k e=>(ol_ h.r k e).1);refine⟨Lh.grown g2 Lh.size (fun k e=>by cases e;exact h.lo),cO b2 2 _,⟨dA (fI h.s.own h.r (by decide) hg) b2 (by decide) g2,h.s.len,fun i g f h1 h2=>?_⟩,dA (fI h.t h.r (by decide) hg) b2 (by decide) g2,dA ho b2 (by decide) g2,h.lo⟩;have k2:=dR h.r (h.s.row i g f h1 h2) (by decide) hg;exact bQ k2 g2 (fun e=>dD k2 b2 (by decide) (oi_ e))
end
def CJ (S:List (Nat->Bool)) (n:Nat) (w:W_) (e:Ending) (w':W_):Prop:=∃vS vT vR vM,e=.returned (.agg #[vS,vT,vR])/\(∃a n c,vT=.slice a n c)/\(∃a n c,vR=.slice a n c)/\B_ w w'/\Bls w.heap.size w' vS n vM S
theorem Vw {W:W_} {g:Nat} {a b c:V_} (h:dh W g 163 [a,b,c]):(loadVar 163 (a_ g 0)).run Tryz.prog W=.ok (.agg #[a,b,c]) W:=
 run_loadVar_mid W g 0 163 [a,b,c] _ (dZ h) Tryz.underlying163 rfl (by kernel_rfl)
theorem MW {w w3 W:W_} {go r:Nat} {vS vT vR:V_} {vM:List Nat} {ts rs:List V_} (hb:B_ w w3) (hr:dh w3 r 163 [n_,n_,n_]) (lr:w.heap.size<=r) (h:MS w3 n go vS vT vR vM S ts rs W) :
  (loadVar 163 (a_ r 0)).run Tryz.prog (jO W r vS vT vR)=.ok (.agg #[vS,vT,vR]) (jO W r vS vT vR)/\CJ S n w (.returned (.agg #[vS,vT,vR])) (jO W r vS vT vR):=by
 have r2:=bN hr h.be (bO hr);have g2:=iP W r vS vT vR;have b2:B_ w W:=hb.trans (h.be.mono hb.size);obtain⟨aT,cT,eT,_,_⟩:=dS h.t;obtain⟨aR,cR,eR,_,_⟩:=dS h.r;refine⟨Vw (ja r2 _ _ _),vS,vT,vR,vM,rfl,⟨_,_,_,eT⟩,⟨_,_,_,eR⟩,b2.grown g2 b2.size (fun k e=>by cases e;exact lr),dH (dA h.s.own r2 (by decide) g2) hb.size,h.s.len,fun i g f h1 h2=>?_⟩;have k1:=h.s.row i g f h1 h2;exact bQ k1 g2 (fun e=>dD k1 r2 (by decide) (oi_ e))
theorem Pv (n:Nat) (f:Nat->Nat->Bool) (R:List Nat) (S:List (Nat->Bool)) {j d:Nat} (hj:R[j]?=some d):(R.take (j+1)).foldl (fun Q c=>qE n Q (f c)) S=qE n ((R.take j).foldl (fun Q c=>qE n Q (f c)) S) (f d):=by rw [List.take_add_one,hj,List.foldl_append];rfl
namespace Pu
theorem Ql (h:rG s n=0):qE n S s=S:=by unfold qE;rw [if_pos h]
theorem VF (h:rG s n≠0) (h2:GK n s S.tail 1<0):qE n S s=S++[s]:=by unfold qE;rw [if_neg h,if_pos h2]
theorem VG (h:rG s n≠0) (h2:¬GK n s S.tail 1<0):qE n S s=S:=by unfold qE;rw [if_neg h,if_neg h2]
end Pu
namespace Pu
theorem Rv.congr {L i:Nat} {y:aF} {bg en bg' en':Nat->Nat->Bool} (h:Rv L y i bg en) (hk:NdK n i y) (e:∀j p,j<n->p<L->bg' j p=bg j p/\en' j p=en j p):Rv L y i bg' en':=by
 have hi:=hk.lt;refine⟨fun k p hp hb=>?_,fun k p hp hb=>?_,fun k p hp hb=>?_,fun k p hp hb=>?_⟩
 .have:=hk.kl k;rw [(e y.l p (by omega) hp).1];exact h.c1 k p hp (by rw [<-(e i p hi hp).1];exact hb)
 .have:=hk.kr (.inl k);rw [(e y.r p (by omega) hp).1];exact h.c2 k p hp (by rw [<-(e y.l p (by omega) hp).2];exact hb)
 .have:=hk.kr (.inr k);rw [(e y.r p (by omega) hp).1];exact h.c3 k p hp (by rw [<-(e i p hi hp).1];exact hb)
 .have:=hk.kl (by omega);rw [(e y.l p (by omega) hp).1];exact h.c4 k p hp (by rw [<-(e y.l p (by omega) hp).2];exact hb)
theorem WY.congr {L i:Nat} {y:aF} {w:List Nat} {bg en bg' en':Nat->Nat->Bool} (h:WY L w y i bg en) (hk:NdK n i y) (hL:L=w.length+2) (hw:∀c∈w,c<256) (e:∀j p,j<n->p<L->bg' j p=bg j p/\en' j p=en j p):WY L w y i bg' en':=by
 have hi:=hk.lt;refine⟨fun k q hq ht=>?_,fun k q hq hb=>?_,fun k q hq hb=>?_,fun k k2 q hq hb=>?_⟩
 .rw [(e i q hi hq).2];refine h.e1 k q hq ?_
  rw [hL] at hq;obtain⟨p0,c,a1,a2,a3⟩:=(uK hw hq).1 ht;exact (uK hw hq).2 ⟨p0,c,a1,by rw [<-(e i p0 hi (by omega)).1];exact a2,a3⟩
 .have:=hk.kr k;rw [(e i q hi hq).2];exact h.e2 k q hq (by rw [<-(e y.r q (by omega) hq).2];exact hb)
 .rw [(e i q hi hq).2];exact h.e0 k q hq (by rw [<-(e i q hi hq).1];exact hb)
 .have:=hk.kl k;rw [(e i q hi hq).2];exact h.eL k k2 q hq (by rw [<-(e y.l q (by omega) hq).2];exact hb)
end Pu
structure Oy (w0:W_) (gw g:Nat) (s:Y_) (L:Nat) (vb ve:V_) (bs es:List Nat) (W:W_):Prop where
 be:B_ w0 W
 b:dh W gw 268 [p_ g,.string s,vb,ve]
 ob:W.ownsRow w0.heap.size 203 1 vb bs.length (mX L bs)
 oe:W.ownsRow w0.heap.size 203 1 ve es.length (mX L es)
 rb:∀x∈bs++es,Bl W x L (fun _=>false)
 nd:(bs++es).Nodup
 lo:∀x∈bs++es,w0.heap.size<=x
 gl:w0.heap.size<=gw
 ne:∀x,vb.ownBlock=some x->ve.ownBlock≠some x
section
variable {w0:W_} {gw g:Nat} {s:Y_} {L:Nat} {vb ve:V_} {bs es:List Nat} {W W':W_}
theorem Oy.below (h:Oy w0 gw g s L vb ve bs es W) (hb:B_ W W'):Oy w0 gw g s L vb ve bs es W':=
 ⟨iT h.be hb,bN h.b hb (bO h.b),bU h.ob hb di,bU h.oe hb di,fun x hx=>bN (h.rb x hx) hb (bO (h.rb x hx)),h.nd,h.lo,h.gl,h.ne⟩
theorem Oy.fresh (h:Oy w0 gw g s L vb ve bs es W):W.heap.size∉bs++es:=fun hm=>by have:=bO (h.rb _ hm);omega
theorem Oy.agk (h:Oy w0 gw g s L vb ve bs es W) (ho:w2.ownsRow w0.heap.size 203 1 (s_ g2 (bs.length+1) fE) (bs.length+1) (mX L bs++[s_ W.heap.size L L])) (hg:(qV W L).grownBy w2 vb.ownBlock) (hat:vb.ownBlock=some g2\/g2=W.heap.size+1+1) :
  Oy w0 gw g s L (s_ g2 (bs.length+1) fE) ve (bs++[W.heap.size]) es (w2.setCell (a_ gw 2) (s_ g2 (bs.length+1) fE)):=by
 have h2:=h.below (jC W L);have hs:=gs_ w2 gw 2 (s_ g2 (bs.length+1) fE);have b2:=dR h2.ob h2.b (by decide) hg;have hl:w0.heap.size<=(qV W L).heap.size:=h2.be.size;have e1:bs++[W.heap.size]++es=bs++W.heap.size::es:=by simp
 refine⟨?_,cO b2 2 _,?_,dA (De h2.oe (fun k e e'=>h.ne k e'.symm e) hg) b2 (by decide) hs,fun x hx=>?_,?_,fun x hx=>?_,h.gl,fun x e=>?_⟩
 .have c1:B_ w0 w2:=h2.be.grown hg hl (fun k e=>(ol_ h2.ob k e).1);exact c1.grown hs c1.size (fun k e=>by cases e;exact h.gl)
 .have:=dA ho b2 (by decide) hs;rw [la_,sS];exact this
 .have k:Bl (qV W L) x L (fun _=>false):=by
   by_cases e:x=W.heap.size
   .subst e;exact xx W L
   .refine h2.rb x ?_
    simp only [ma_,List.mem_singleton] at hx |-;rcases hx with (hx | hx) | hx
    .exact .inl hx
    .exact absurd hx e
    .exact .inr hx
  have k2:=dR h2.ob k (by decide) hg;exact bQ k2 hs (fun e=>dD k2 b2 (by decide) (oi_ e))
 .rw [e1,(List.perm_middle).nodup_iff];exact List.nodup_cons.2 ⟨h.fresh,h.nd⟩
 .by_cases e:x=W.heap.size
  .subst e;exact h.be.size
  .refine h.lo x ?_
   simp only [ma_,List.mem_singleton] at hx |-;rcases hx with (hx | hx) | hx
   .exact .inl hx
   .exact absurd hx e
   .exact .inr hx
 .have e':g2=x:=oi_ e;subst e';rcases hat with hat | hat
  .exact h.ne g2 hat
  .intro e2;have:=(ol_ h.oe g2 e2).2;omega
theorem Oy.agl (h:Oy w0 gw g s L vb ve bs es W) (ho:w2.ownsRow w0.heap.size 203 1 (s_ g2 (es.length+1) fE) (es.length+1) (mX L es++[s_ W.heap.size L L])) (hg:(qV W L).grownBy w2 ve.ownBlock) (hat:ve.ownBlock=some g2\/g2=W.heap.size+1+1) :
  Oy w0 gw g s L vb (s_ g2 (es.length+1) fE) bs (es++[W.heap.size]) (w2.setCell (a_ gw 3) (s_ g2 (es.length+1) fE)):=by
 have h2:=h.below (jC W L);have hs:=gs_ w2 gw 3 (s_ g2 (es.length+1) fE);have b2:=dR h2.oe h2.b (by decide) hg;have hl:w0.heap.size<=(qV W L).heap.size:=h2.be.size;have e1:bs++(es++[W.heap.size])=(bs++es)++W.heap.size::[]:=by simp
 refine⟨?_,cO b2 3 _,dA (De h2.ob (fun k e e'=>h.ne k e e'.symm) hg) b2 (by decide) hs,?_,fun x hx=>?_,?_,fun x hx=>?_,h.gl,fun x e e3=>?_⟩
 .have c1:B_ w0 w2:=h2.be.grown hg hl (fun k e=>(ol_ h2.oe k e).1);exact c1.grown hs c1.size (fun k e=>by cases e;exact h.gl)
 .have:=dA ho b2 (by decide) hs;rw [la_,sS];exact this
 .have k:Bl (qV W L) x L (fun _=>false):=by
   by_cases e:x=W.heap.size
   .subst e;exact xx W L
   .refine h2.rb x ?_
    simp only [ma_,List.mem_singleton] at hx |-;rcases hx with hx | hx | hx
    .exact .inl hx
    .exact .inr hx
    .exact absurd hx e
  have k2:=dR h2.oe k (by decide) hg;exact bQ k2 hs (fun e=>dD k2 b2 (by decide) (oi_ e))
 .rw [e1,(List.perm_middle).nodup_iff,List.append_nil];exact List.nodup_cons.2 ⟨h.fresh,h.nd⟩
 .by_cases e:x=W.heap.size
  .subst e;exact h.be.size
  .refine h.lo x ?_
   simp only [ma_,List.mem_singleton] at hx |-;rcases hx with hx | hx | hx
   .exact .inl hx
   .exact .inr hx
   .exact absurd hx e
 .have e':g2=x:=oi_ e3;subst e';rcases hat with hat | hat
  .exact h.ne g2 e hat
  .have:=(ol_ h.ob g2 e).2;omega
end
theorem aap (w:W_) (gw g n L gb cb ge ce:Nat) (s:Y_) (bs es:List Nat) (W:W_) (h:Oy w gw g s L (s_ gb n cb) (s_ ge n ce) bs es W) (lb:bs.length=n) (le:es.length=n):kL w gw g s n L gb cb ge ce bs es (fun _ _=>false) (fun _ _=>false) W:=
 ⟨h.be,h.b,by have:=h.ob;rw [lb] at this;exact this,by have:=h.oe;rw [le] at this;exact this,lb,le,fun i g e=>h.rb g (List.mem_append_left _ (mg_ e)),fun i g e=>h.rb g (List.mem_append_right _ (mg_ e)),h.nd,h.lo⟩
def XE (s:Y_) (x:aM) (w:W_) (e:Ending) (w':W_):Prop:=
 ∃gr f,e=.returned (s_ gr (s.size+2) (s.size+2))/\B_ w w'/\Bl w' gr (s.size+2) f/\∀q,q<s.size+2->(f q=true↔nI (qH s) x (fun p=>p=0) q)
theorem UI (B0 g aS:Nat) (s0 s:Y_) (ls:List aC) (ns:List aF) (vn vl:V_) (modes down:Int) (k:Nat) (x:aC) (n L root:Nat) (w:W_) (hd:Dr B0 g s0 aS ns vn vl modes down w) (YV:xU ls ns) (hx:ls[k]?=some x) (hn:ns.length=n) (hN:n<=1000) (hs:s.size<=1000) (hL:L=s.size+2) (hroot:root=dK (ls.take k)+x.re.size-1) :
  C_ 153 #[p_ g,I_ root,.string s] w (XE s x.re w):=by
 obtain⟨il,hil,hl0,hl1,hl2⟩:=ip_ zm;have hmk:=qx L (by omega);have wl:IntKind.i64.wrap ((s.size:Int)+2)=(L:Int):=by rw [oG _ (by omega) (by omega)];omega
 obtain⟨an,cn,rfl,_,_⟩:=dS hd.own;have rlt:root<n:=by obtain⟨y,_,hy⟩:=(YV.at' k x hx).root;rw [hroot,<-hn];exact Pu.mY hy
 have HD:=bK hd;have b1:B_ w (w.alloc (c_ #[p_ g,.string s,n_,n_] 268)):=mi _
 have G0:Hid (Oy w w.heap.size g s L n_ n_ [] [] (w.alloc (c_ #[p_ g,.string s,n_,n_] 268))):=⟨b1,hn_ _ _,fT _ _ _ _,fT _ _ _ _,fun x hx=>by simp at hx,by simp,fun x hx=>by simp at hx,di,fun x e=>by cases e⟩
 have NK:Hid (∀i y,ns[i]?=some y->Pu.NdK n i y):=fun i y hy=>by rw [<-hn];exact YV.ndK hy
 have CL:Hid (∀i y,ns[i]?=some y->Gn (qH s) (kH (qH s) x.re (dK (ls.take k)) (fun p=>p=0)) (kI (qH s) x.re (dK (ls.take k)) (fun p=>p=0)) i y):=fun i y hy=>aeZ YV hx _ hy
 have LW:Hid (L=(qH s).length+2):=by show _=_;rw [Ki];exact hL
 have FIN:Hid (∀bg en,Dw (kH (qH s) x.re (dK (ls.take k)) (fun p=>p=0)) (kI (qH s) x.re (dK (ls.take k)) (fun p=>p=0)) L n bg en bg en false->(∀i y,ns[i]?=some y->Rv L y i bg en/\WY L (qH s) y i bg en)->bg root 0=true->∀q,q<L->(en root q=true↔nI (qH s) x.re (fun p=>p=0) q)):=fun bg en h1 h2 h3 q hq=>by subst hroot;rw [<-hn] at h1;exact UJ YV hx LW.o (Df s) h1 h2 h3 hq
 have SB0:Hid (kH (qH s) x.re (dK (ls.take k)) (fun p=>p=0) root 0):=by subst hroot;exact (jM x.re).2 rfl
 have EL2:=bK hL;have HN:=bK hn;clear hd b1 YV hx hroot hL hn;generalize kH (qH s) x.re (dK (ls.take k)) (fun p=>p=0)=PB at *;generalize kI (qH s) x.re (dK (ls.take k)) (fun p=>p=0)=PE at *;have c1:=bP 1 (HD.o.below G0.o.be).rb rfl;rw [HN.o] at c1;go_enter Tryz.func153,Tryz.ntmps153
 go_wp2_with fail
 clear c1;generalize w.alloc (c_ #[p_ g,.string s,n_,n_] 268)=W1 at *;generalize hgw:w.heap.size=gw at *;rw [<-hgw] at G0;have G1:Hid (Oy w gw g s L n_ n_ [] [] W1):=by rw [<-hgw];exact G0.o
 clear G0 hgw
 go_loopg [8] n (fun gk iv wx=>∃(i:Nat) (vb ve:V_) (bs es:List Nat),i<=n/\gk=n-i/\iv=I_ i/\bs.length=i/\es.length=i/\Oy w gw g s L vb ve bs es wx)
 case atStart=>exact⟨0,_,_,[],[],zl_ _,rfl,rfl,rfl,rfl,G1.o⟩
 case round=>
  clear G1;obtain⟨i,vb,ve,bs,es,il',rfl,rfl,hbl,hel,hG⟩:=hrel;have c1:=bP 1 (HD.o.below hG.be).rb rfl;rw [HN.o] at c1;have BL:=bK hbl;have EL:=bK hel;have bl5:bs.length<=1000:=by omega
  have el5:es.length<=1000:=by omega
  have HG:=bK hG;clear hG hbl hel;by_cases hi:i<n
  .have d1:=nV i n;have wi:=kg i;go_upto_region 5 with (fail);clear c1
   go_cut [] from 18 to 52 (fun wx=>∃vb' bs',bs'.length=i+1/\Oy w gw g s L vb' ve bs' es wx)
   case first=>
    have G2:=bK (HG.o.below (jC wr L));have yz:Hid (∀j u,[s_ wr.heap.size L L][j]?=some u->(qV wr L).cell? ((⟨(wr.alloc (c_ (qM L (fun _=>false)).toArray 4)).heap.size,0,none⟩:Addr).add j)=some u):=World.news_of_block (cs:=#[s_ wr.heap.size L L]) (t:=203) (fr:=(0,0)) (zT _ _);have Dj:Hid (∀j u,[s_ wr.heap.size L L][j]?=some u->(qV wr L).cell? (((a_ (wr.heap.size+1) 0):Addr).add j)=some u):=by have:=yz.o;rw [wa_] at this;exact this
    have c1m:=bP 2 (dx HG.o.b (c_ (qM L (fun _=>false)).toArray 4)) rfl;have OI:Hid (w.heap.size<=(qV wr L).heap.size):=lt_ HG.o.be.size (jC _ _).size;have c1:=bP 2 HG.o.b rfl;have c1':=bP 2 G2.o.b rfl;refine wd_ (S:=fun _=>True) (by kernel_rfl) trivial (fun dF=>?_);refine bW 0 ?_
    refine bW 1 ?_
    refine bW 2 ?_
    refine bW 3 ?_
    refine bW 5 ?_
    refine bW 6 ?_
    refine bW 7 ?_
    refine xY 4 8 (fun K hK=>?_) (fun K hK=>?_)
    all_goals
     go_simp
     refine hK.out _ _ trivial (fun dF=>?_);clear hK K
     try simp only [nU,Act.put]
    .refine fq 8 (fun K hK=>?_)
     go_simp
     refine hK.out _ _ trivial (fun dF=>?_);clear hK K
     try simp only [nU,Act.put]
     refine fq 9 (fun K hK=>?_);refine eQ 102 203 0 (.tmp 35) (s_ wr.heap.size L L) rfl rfl #[s_ wr.heap.size L L] il _ 1 Tryz.underlying102 hil hl0 hl1 (by omega) (by omega) (tC _ _ _) ?_
     refine hK.out _ _ trivial (fun dF=>?_);clear hK K
     try simp only [nU,Act.put]
     refine fq 10 (fun K hK=>?_);refine sa_ _ (by rfl) _ _ _ (by rfl) w.heap.size 203 il _ 1 24 Tryz.underlying102 hil hl0 hl1 hl2 rfl (by omega) vb bs.length (mX L bs) (by rfl) G2.o.ob ⟨(wr.alloc (c_ (qM L (fun _=>false)).toArray 4)).heap.size,0,none⟩ 1 1 [s_ wr.heap.size L L] (by rfl) rfl yz.o (fun u hu=>by simp at hu;subst hu;rfl) (by omega) (by unfold maxLen;omega) (by omega) OI.o (wr.heap.size+1+1) (by simp) ?_
     intro g2 fE w2 dw bS jH kV;refine hK.out _ _ trivial (fun dF=>?_);clear hK K;have kD:=dR G2.o.ob G2.o.b (by decide) bS;have k1:=bP 2 kD rfl;have Ee:=bL kD 2
     try simp only [nU,Act.put]
     refine bW 11 ?_
     refine bW 12 ?_
     refine fq 13 (fun K hK=>?_)
     go_simp
     refine hK.out _ _ trivial (fun dF=>?_);clear hK K;refine wpAnyH_done (by kernel_rfl) ?_ _;have G3:=bK (HG.o.agk dw bS jH);clear dF kD k1 Ee dw bS jH kV
     go_wp2_with fail
     go_meet
     case rel=>exact⟨_,_,by simp [BL.o],G3.o⟩
    .refine xY 4 9 (fun K hK=>?_) (fun K hK=>?_)
     focus
      go_simp
      refine hK.out _ _ trivial (fun dF=>?_);clear hK K
      try simp only [nU,Act.put]
      refine fq 9 (fun K hK=>?_)
     rotate_left
     rotate_left
     all_goals
      refine eQ 102 203 0 (.tmp 35) (s_ wr.heap.size L L) rfl rfl #[s_ wr.heap.size L L] il _ 1 Tryz.underlying102 hil hl0 hl1 (by omega) (by omega) (tC _ _ _) ?_
      refine hK.out _ _ trivial (fun dF=>?_);clear hK K
      try simp only [nU,Act.put]
     focus
      refine fq 10 (fun K hK=>?_);refine sa_ _ (by rfl) _ _ _ (by rfl) w.heap.size 203 il _ 1 24 Tryz.underlying102 hil hl0 hl1 hl2 rfl (by omega) vb bs.length (mX L bs) (by rfl) G2.o.ob ⟨(wr.alloc (c_ (qM L (fun _=>false)).toArray 4)).heap.size,0,none⟩ 1 1 [s_ wr.heap.size L L] (by rfl) rfl yz.o (fun u hu=>by simp at hu;subst hu;rfl) (by omega) (by unfold maxLen;omega) (by omega) OI.o (wr.heap.size+1+1) (by simp) ?_
     rotate_left
     focus
      refine fq 4 (fun K hK=>?_)
      go_simp
      refine hK.out _ _ trivial (fun dF=>?_);clear hK K
      try simp only [nU,Act.put]
      refine fq 10 (fun K hK=>?_);refine sa_ _ (by rfl) _ _ _ (by rfl) w.heap.size 203 il _ 1 24 Tryz.underlying102 hil hl0 hl1 hl2 rfl (by omega) vb bs.length (mX L bs) (by rfl) G2.o.ob (a_ (wr.heap.size+1) 0) 1 1 [s_ wr.heap.size L L] (by rfl) rfl Dj.o (fun u hu=>by simp at hu;subst hu;rfl) (by omega) (by unfold maxLen;omega) (by omega) OI.o (wr.heap.size+1+1) (by simp) ?_
     all_goals
      intro g2 fE w2 dw bS jH kV;refine hK.out _ _ trivial (fun dF=>?_);clear hK K;have kD:=dR G2.o.ob G2.o.b (by decide) bS;have k1:=bP 2 kD rfl;have Ee:=bL kD 2
      try simp only [nU,Act.put]
      refine bW 11 ?_
      refine bW 12 ?_
      refine fq 13 (fun K hK=>?_)
      go_simp
      refine hK.out _ _ trivial (fun dF=>?_);clear hK K;refine wpAnyH_done (by kernel_rfl) ?_ _;have G3:=bK (HG.o.agk dw bS jH);clear dF kD k1 Ee dw bS jH kV
      go_wp2_with fail
      go_meet
      case rel=>exact⟨_,_,by simp [BL.o],G3.o⟩
   case rest=>
    clear HG BL bl5;obtain⟨vb',bs',BL0,hG⟩:=hcut;have HG:=bK hG;have BL:=bK BL0;clear hG BL0;have G2:=bK (HG.o.below (jC wc L));have yz:Hid (∀j u,[s_ wc.heap.size L L][j]?=some u->(qV wc L).cell? ((⟨(wc.alloc (c_ (qM L (fun _=>false)).toArray 4)).heap.size,0,none⟩:Addr).add j)=some u):=World.news_of_block (cs:=#[s_ wc.heap.size L L]) (t:=203) (fr:=(0,0)) (zT _ _);have Dj:Hid (∀j u,[s_ wc.heap.size L L][j]?=some u->(qV wc L).cell? (((a_ (wc.heap.size+1) 0):Addr).add j)=some u):=by have:=yz.o;rw [wa_] at this;exact this
    have c1m:=bP 3 (dx HG.o.b (c_ (qM L (fun _=>false)).toArray 4)) rfl;have OI:Hid (w.heap.size<=(qV wc L).heap.size):=lt_ HG.o.be.size (jC _ _).size;have c1:=bP 3 HG.o.b rfl;have c1':=bP 3 G2.o.b rfl;go_upto_region 6 with (fail);refine wd_ (S:=fun _=>True) (by kernel_rfl) trivial (fun dF=>?_);refine bW 0 ?_
    refine bW 1 ?_
    refine bW 2 ?_
    refine bW 3 ?_
    refine bW 5 ?_
    refine bW 6 ?_
    refine bW 7 ?_
    refine xY 4 8 (fun K hK=>?_) (fun K hK=>?_)
    all_goals
     go_simp
     refine hK.out _ _ trivial (fun dF=>?_);clear hK K
     try simp only [nU,Act.put]
    .refine fq 8 (fun K hK=>?_)
     go_simp
     refine hK.out _ _ trivial (fun dF=>?_);clear hK K
     try simp only [nU,Act.put]
     refine fq 9 (fun K hK=>?_);refine eQ 102 203 0 (.tmp 48) (s_ wc.heap.size L L) rfl rfl #[s_ wc.heap.size L L] il _ 1 Tryz.underlying102 hil hl0 hl1 (by omega) (by omega) (tC _ _ _) ?_
     refine hK.out _ _ trivial (fun dF=>?_);clear hK K
     try simp only [nU,Act.put]
     refine fq 10 (fun K hK=>?_);refine sa_ _ (by rfl) _ _ _ (by rfl) w.heap.size 203 il _ 1 24 Tryz.underlying102 hil hl0 hl1 hl2 rfl (by omega) ve es.length (mX L es) (by rfl) G2.o.oe ⟨(wc.alloc (c_ (qM L (fun _=>false)).toArray 4)).heap.size,0,none⟩ 1 1 [s_ wc.heap.size L L] (by rfl) rfl yz.o (fun u hu=>by simp at hu;subst hu;rfl) (by omega) (by unfold maxLen;omega) (by omega) OI.o (wc.heap.size+1+1) (by simp) ?_
     intro g2 fE w2 dw bS jH kV;refine hK.out _ _ trivial (fun dF=>?_);clear hK K;have kD:=dR G2.o.oe G2.o.b (by decide) bS;have k1:=bP 3 kD rfl;have Ee:=bL kD 3
     try simp only [nU,Act.put]
     refine bW 11 ?_
     refine bW 12 ?_
     refine fq 13 (fun K hK=>?_)
     go_simp
     refine hK.out _ _ trivial (fun dF=>?_);clear hK K;refine wpAnyH_done (by kernel_rfl) ?_ _;have G3:=bK (HG.o.agl dw bS jH);clear dF kD k1 Ee dw bS jH kV;go_wp2;go_roundg (n-(i+1))
     case measure=>omega
     case rel=>exact⟨i+1,_,_,_,_,by omega,rfl,by go_num,by rw [BL.o],by simp [EL.o],G3.o⟩
    .refine xY 4 9 (fun K hK=>?_) (fun K hK=>?_)
     focus
      go_simp
      refine hK.out _ _ trivial (fun dF=>?_);clear hK K
      try simp only [nU,Act.put]
      refine fq 9 (fun K hK=>?_)
     rotate_left
     rotate_left
     all_goals
      refine eQ 102 203 0 (.tmp 48) (s_ wc.heap.size L L) rfl rfl #[s_ wc.heap.size L L] il _ 1 Tryz.underlying102 hil hl0 hl1 (by omega) (by omega) (tC _ _ _) ?_
      refine hK.out _ _ trivial (fun dF=>?_);clear hK K
      try simp only [nU,Act.put]
     focus
      refine fq 10 (fun K hK=>?_);refine sa_ _ (by rfl) _ _ _ (by rfl) w.heap.size 203 il _ 1 24 Tryz.underlying102 hil hl0 hl1 hl2 rfl (by omega) ve es.length (mX L es) (by rfl) G2.o.oe ⟨(wc.alloc (c_ (qM L (fun _=>false)).toArray 4)).heap.size,0,none⟩ 1 1 [s_ wc.heap.size L L] (by rfl) rfl yz.o (fun u hu=>by simp at hu;subst hu;rfl) (by omega) (by unfold maxLen;omega) (by omega) OI.o (wc.heap.size+1+1) (by simp) ?_
     rotate_left
     focus
      refine fq 4 (fun K hK=>?_)
      go_simp
      refine hK.out _ _ trivial (fun dF=>?_);clear hK K
      try simp only [nU,Act.put]
      refine fq 10 (fun K hK=>?_);refine sa_ _ (by rfl) _ _ _ (by rfl) w.heap.size 203 il _ 1 24 Tryz.underlying102 hil hl0 hl1 hl2 rfl (by omega) ve es.length (mX L es) (by rfl) G2.o.oe (a_ (wc.heap.size+1) 0) 1 1 [s_ wc.heap.size L L] (by rfl) rfl Dj.o (fun u hu=>by simp at hu;subst hu;rfl) (by omega) (by unfold maxLen;omega) (by omega) OI.o (wc.heap.size+1+1) (by simp) ?_
     all_goals
      intro g2 fE w2 dw bS jH kV;refine hK.out _ _ trivial (fun dF=>?_);clear hK K;have kD:=dR G2.o.oe G2.o.b (by decide) bS;have k1:=bP 3 kD rfl;have Ee:=bL kD 3
      try simp only [nU,Act.put]
      refine bW 11 ?_
      refine bW 12 ?_
      refine fq 13 (fun K hK=>?_)
      go_simp
      refine hK.out _ _ trivial (fun dF=>?_);clear hK K;refine wpAnyH_done (by kernel_rfl) ?_ _;have G3:=bK (HG.o.agl dw bS jH);clear dF kD k1 Ee dw bS jH kV;go_wp2;go_roundg (n-(i+1))
      case measure=>omega
      case rel=>exact⟨i+1,_,_,_,_,by omega,rfl,by go_num,by rw [BL.o],by simp [EL.o],G3.o⟩
  .have d1:=mM i n;have ei:i=n:=by omega
   subst ei;obtain⟨gb,cb,evb,_,_⟩:=dJ HG.o.ob (by rw [BL.o];omega);obtain⟨ge,ce,eve,_,_⟩:=dJ HG.o.oe (by rw [EL.o];omega);rw [BL.o] at evb;rw [EL.o] at eve;subst evb eve;have H0:=bK (aap w gw g i L gb cb ge ce s bs es wr HG.o BL.o EL.o);obtain⟨gr,Qr⟩:∃x,Hid (bs[root]?=some x):=⟨_,gg_ (by rw [BL.o];omega)⟩;obtain⟨gz,Qz⟩:∃x,Hid (es[root]?=some x):=⟨_,gg_ (by rw [EL.o];omega)⟩;have L0:0<L:=by rw [EL2.o];omega
   have Ll:L<=100000:=by rw [EL2.o];omega
   have aY:=jg root;have r1:(root:Int)<i:=by omega
   have z0:(0:Int)<L:=by omega
   have e2:=bP 2 H0.o.b rfl;have e3:wr.cell? (a_ gb root)=some (s_ gr L L):=bT H0.o.ob (eY Qr.o);have e4:=bM (H0.o.rb _ _ Qr.o) (gH _ L0);have e5:=bL (H0.o.rb _ _ Qr.o) 0;have H1:=bK (H0.o.wS Qr.o (gs_ wr gr 0 (.bool true)) ((H0.o.rb _ _ Qr.o).set 0 true))
   have ST:Hid (Dw PB PE L i (dO (fun _ _=>false) root (uf (fun _=>false) 0 true)) (fun _ _=>false) (dO (fun _ _=>false) root (uf (fun _=>false) 0 true)) (fun _ _=>false) false):=⟨fun j p _ _ h=>(by
    unfold dO uf at h;by_cases c:j=root
    .rw [if_pos c] at h;by_cases c2:p=0
     .rw [c,c2];exact SB0.o
     .simp [c2] at h
    .rw [if_neg c] at h;cases h),fun j p _ _ h=>(by cases h),fun _ _ h=>h,by simp,fun _ _ _ _ _=>⟨rfl,rfl⟩⟩
   have RT:Hid (dO (fun _ _=>false) root (uf (fun _=>false) 0 true) root 0=true):=by show _=_;rw [uL];unfold uf;rw [if_pos rfl]
   clear HG H0 hmk wl
   go_wp2_with fail
   clear e2 e3 e4 e5 c1;generalize dO (fun _ _=>false) root (uf (fun _=>false) 0 true)=bg1 at *;generalize (fun _ _=>false:Nat->Nat->Bool)=en1 at *;generalize wr.setCell (a_ gr 0) (.bool true)=W2 at *
   go_loopg [9,10,11,12,13] (LF i L bg1+LF i L en1+1) (fun gk mv _ _ _ _ wx=>∃(bg en:Nat->Nat->Bool) (more:Bool),gk=LF i L bg+LF i L en+(if more=true then 1 else 0)/\mv=.bool more/\kL w gw g s i L gb cb ge ce bs es bg en wx/\Dw PB PE L i bg en bg en false/\bg root 0=true/\(more=false->∀j y,ns[j]?=some y->Rv L y j bg en/\WY L (qH s) y j bg en))
   case atStart=>exact⟨bg1,en1,true,rfl,rfl,H1.o,ST.o,RT.o,fun e=>by cases e⟩
   case round=>
    clear H1 ST RT SB0;obtain⟨wK,en0,ahj,rfl,rfl,hI,hS,hR,hE⟩:=hrel;have HI:=bK hI;have HS:=bK hS;have RR:=bK hR
    cases ahj with
    | false=>
     have F2:=bK (FIN.o wK en0 hS (hE rfl) hR);have e2:=bP 3 hI.b rfl;have e3:wr.cell? (a_ ge root)=some (s_ gz L L):=bT hI.oe (eY Qz.o);have RES:Hid (XE s x.re w (.returned (s_ gz L L)) wr):=by have k1:=HI.o.re _ _ Qz.o;have k2:=F2.o;rw [EL2.o] at k1 k2 |-;exact⟨gz,en0 root,rfl,HI.o.be,k1,k2⟩
     clear hI hS hR hE F2 HS;go_wp2;go_ret;exact RES.o
    | true=>
     clear hI hS hR hE;have c1:=bP 1 (HD.o.below HI.o.be).rb rfl;rw [HN.o] at c1;have ws:=xF ((i:Int)-1)
     go_wp2_with fail
     clear c1
     go_loopg [9,10,11] i (fun gk mv iv _ wx=>∃(bg:Nat->Nat->Bool) (more:Bool) (k:Nat),k<=i/\gk=k/\mv=.bool more/\iv=I_ ((k:Int)-1)/\kL w gw g s i L gb cb ge ce bs es bg en0 wx/\Dw PB PE L i wK en0 bg en0 more/\(more=false->∀j y,k<=j->ns[j]?=some y->Rv L y j wK en0))
     case atStart=>exact⟨wK,false,i,di,rfl,rfl,rfl,HI.o,HS.o,fun _ j y h1 h2=>by have:=Pu.mY h2;rw [HN.o] at this;omega⟩
     case round=>
      clear HI HS;obtain⟨bg,more,k,kl,rfl,rfl,rfl,hI,hS,hC⟩:=hrel;have HI:=bK hI;have HS:=bK hS;have HC:=bK hC;by_cases hk:0<gk
      .have d2:decide ((0:Int)<=gk-1)=true:=dt_ (by omega);have wk:=xF ((gk:Int)-1-1);obtain⟨m,rfl⟩:∃m,gk=m+1:=⟨gk-1,by omega⟩;have em:((m+1:Nat):Int)-1=(m:Int):=by omega
       obtain⟨y,hy⟩:∃y,ns[m]?=some y:=⟨_,gg_ (by rw [HN.o];omega)⟩;have CA:=bK (Yp B0 g aS s0 s ns _ _ modes down w gw i L gb cb ge ce bs es bg en0 m y wr HD.o hy HN.o (NK.o m y hy) Ll (by omega) hI);have SD:=bK (hS.down (CL.o m y hy) (NK.o m y hy));have HY:=bK hy;clear hI hS hC hy;rw [em] at d2 wk |-
       go_wp2_with fail
       refine CA.o.mono ?_
       clear CA;rintro e w2 ⟨rfl,hI2⟩;have HI2:=bK hI2
       have ND:Hid ((more || Pu.Aq L y m bg en0)=false->∀j y',m<=j->ns[j]?=some y'->Rv L y' j wK en0):=fun e j y' h1 h2=>by
        by_cases c:j=m
        .subst c;rw [HY.o] at h2;cases h2;exact SD.o.2 e
        .exact HC.o (Bool.or_eq_false_iff.1 e).1 j y' (by omega) h2
       have S2:=bK SD.o.1;clear SD HC HS HI hI2 HY;generalize Pu.Aq L y m bg en0=r at *;generalize Ck y m bg en0=bg2 at *
       cases more with
       | true=>
        go_wp2;go_roundg m
        case measure=>omega
        case rel=>exact⟨bg2,true,m,by omega,rfl,rfl,by go_num,HI2.o,S2.o,ND.o⟩
       | false=>
        go_wp2;go_roundg m
        case measure=>omega
        case rel=>exact⟨bg2,r,m,by omega,rfl,by simp,by go_num,HI2.o,by have:=S2.o;rwa [Bool.false_or] at this,by have:=ND.o;rwa [Bool.false_or] at this⟩
      .have ek:gk=0:=by omega
       subst ek;have d2:decide ((0:Int)<=((0:Nat):Int)-1)=false:=by decide
       have HC0:Hid (more=false->∀j y,ns[j]?=some y->Rv L y j wK en0):=fun e j y h=>HC.o e j y (zl_ _) h
       clear hI hS hC HC
       go_wp2_with fail
       go_loopg [9,12,13] i (fun gk mv iv _ wx=>∃(en:Nat->Nat->Bool) (more:Bool) (k:Nat),k<=i/\gk=i-k/\mv=.bool more/\iv=I_ k/\kL w gw g s i L gb cb ge ce bs es bg en wx/\Dw PB PE L i wK en0 bg en more/\(more=false->(∀j y,ns[j]?=some y->Rv L y j wK en0)/\∀j y,j<k->ns[j]?=some y->WY L (qH s) y j wK en0))
       case atStart=>exact⟨en0,more,0,zl_ _,rfl,rfl,rfl,HI.o,HS.o,fun e=>⟨HC0.o e,fun j y h=>absurd h (Nat.not_lt_zero _)⟩⟩
       case round=>
        clear HI HS HC0;obtain⟨en,more,k,kl,rfl,rfl,rfl,hI,hS,hC⟩:=hrel;have HI:=bK hI;have HS:=bK hS;have HC:=bK hC;have c1:=bP 1 (HD.o.below hI.be).rb rfl;rw [HN.o] at c1;by_cases hk:k<i
        .have d3:=nV k i;have wk:=kg k;obtain⟨y,hy⟩:∃y,ns[k]?=some y:=⟨_,gg_ (by rw [HN.o];omega)⟩;have CA:=bK (ae7 B0 g aS s0 s ns _ _ modes down w gw i L gb cb ge ce bs es bg en k y wr HD.o hy HN.o (NK.o k y hy) Ll (by omega) hI EL2.o hs);have SD:=bK (hS.up (CL.o k y hy) (NK.o k y hy) LW.o (Df s));have HY:=bK hy;clear hI hS hC hy
         go_wp2_with fail
         refine CA.o.mono ?_
         clear CA c1;rintro e w2 ⟨rfl,hI2⟩;have HI2:=bK hI2
         have ND:Hid ((more || Pu.Ce L (qH s) y k bg en)=false->(∀j y,ns[j]?=some y->Rv L y j wK en0)/\∀j y',j<k+1->ns[j]?=some y'->WY L (qH s) y' j wK en0):=fun e=>⟨(HC.o (Bool.or_eq_false_iff.1 e).1).1,fun j y' h1 h2=>by
          by_cases c:j=k
          .subst c;rw [HY.o] at h2;cases h2;exact SD.o.2 e
          .exact (HC.o (Bool.or_eq_false_iff.1 e).1).2 j y' (by omega) h2⟩
         have S2:=bK SD.o.1;clear SD HC HS HI hI2 HY;generalize Pu.Ce L (qH s) y k bg en=r at *;generalize FT (qH s) y k bg en=en2 at *
         cases more with
         | true=>
          go_wp2;go_roundg (i-(k+1))
          case measure=>omega
          case rel=>exact⟨en2,true,k+1,by omega,rfl,rfl,by go_num,HI2.o,S2.o,ND.o⟩
         | false=>
          go_wp2;go_roundg (i-(k+1))
          case measure=>omega
          case rel=>exact⟨en2,r,k+1,by omega,rfl,by simp,by go_num,HI2.o,by have:=S2.o;rwa [Bool.false_or] at this,by have:=ND.o;rwa [Bool.false_or] at this⟩
        .have d3:=mM k i;have MS:Hid (LF i L bg+LF i L en+(if more=true then 1 else 0)<LF i L wK+LF i L en0+(if true=true then 1 else 0)):=by have:=hS.cnt;show _<_;rw [if_pos (rfl:true=true)];omega
         have OK:Hid (more=false->∀j y,ns[j]?=some y->Rv L y j bg en/\WY L (qH s) y j bg en):=fun e j y hy=>by have c:=HC.o e;have sm:=HS.o.same e;exact⟨(c.1 j y hy).congr (NK.o j y hy) sm,(c.2 j y (by have:=Pu.mY hy;rw [HN.o] at this;omega) hy).congr (NK.o j y hy) LW.o (Df s) sm⟩
         have R2:=bK (hS.mb root 0 RR.o);clear hI hS hC HC;go_wp2;go_roundg (LF i L bg+LF i L en+(if more=true then 1 else 0))
         case measure=>exact MS.o
         case rel=>exact⟨bg,en,more,rfl,rfl,HI.o,HS.o.start,R2.o,OK.o⟩
end Go.Proofs.YtmccnmgaoppogaaGreat
