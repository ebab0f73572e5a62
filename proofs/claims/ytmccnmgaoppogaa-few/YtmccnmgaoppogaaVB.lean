/-
 The walks: the machine looked at: labels, what comes behind. (weirref)
 The walks: a table of truth values; the machine stays where it lies. (weirref)
 The walks: what the document's machine holds, out of its memory. (weirref)
-/
import Derived.Test.YtmccnmgaoppogaaH30
import Derived.Test.YtmccnmgaoppogaaVA
namespace Go.Proofs.Ytmccnmgaoppogaa
set_option maxRecDepth 100000
set_option maxHeartbeats 8000000
open Go.RowKit
structure Mch (w:World) (vT vR:Value) (N J:Nat) (To:Nat→Nat→Int) (Ru:Nat→Int):Prop where
 t:∃b c,vT=.slice (some ⟨b,0,none⟩) N c∧∀i,i<N→∃b' c',b'<w.heap.size∧w.cell? ⟨b,i,none⟩=some (.slice (some ⟨b',0,none⟩) J c')∧∀j,j<J→w.cell? ⟨b',j,none⟩=some (.int .i64 (To i j))
 r:∃b c,vR=.slice (some ⟨b,0,none⟩) N c∧∀i,i<N→w.cell? ⟨b,i,none⟩=some (.int .i64 (Ru i))
theorem label_any (vS vT vR:Value) (N J:Nat) (To:Nat→Nat→Int) (Ru:Nat→Int) (i:Nat) (w:World) (h:Mch w vT vR N J To Ru) (hN:N≤1000) (hi:i≤N):Calls Try.prog 110 #[.agg #[vS,vT,vR],.int .i64 i] w (RetVal (.int .i64 (if i=N then -1 else Ru i)) w):=by
 obtain⟨bT,cT,rfl,-⟩:=h.t
 obtain⟨bR,cR,rfl,hR⟩:=h.r
 clear h
 by_cases e:i=N
 ·subst e
  rw [if_pos rfl];clear hR;go_enter Try.func110,Try.ntmps110;go_wp2;go_ret;exact⟨rfl,bn_ _⟩
 ·rw [if_neg e]
  have k:=hR i (by omega);have k2:=((Below.refl w.heap.size w).alloc lr_ (.cells #[vS,.slice (some ⟨bT,0,none⟩) N cT,.slice (some ⟨bR,0,none⟩) N cR] 146)).cell (p:=⟨bR,i,none⟩) (World.block_lt_of_cell? w _ k);rw [k] at k2;have i0:=nz_ i;have i1:(i:Int)<(N:Int):=by omega
  have q1:((i:Int) == (N:Int))=false:=by simp;omega
  have q2:¬(i:Int)=(N:Int):=by omega
  generalize Ru i=r at *;clear hR k;go_enter Try.func110,Try.ntmps110;go_wp2;go_ret;exact⟨rfl,bn_ _⟩
theorem mbehind_any (vS vT vR:Value) (N J:Nat) (To:Nat→Nat→Int) (Ru:Nat→Int) (i j:Nat) (w:World) (h:Mch w vT vR N J To Ru) (hN:N≤1000) (hi:i≤N) (hj:j<J):Calls Try.prog 142 #[.agg #[vS,vT,vR],.int .i64 i,.int .i64 j] w (RetVal (.int .i64 (if i=N∨To i j<0 then (N:Int) else To i j)) w):=by
 obtain⟨bT,cT,rfl,hT⟩:=h.t
 obtain⟨bR,cR,rfl,-⟩:=h.r
 clear h
 by_cases e:i=N
 ·subst e
  rw [if_pos (.inl rfl)];clear hT;go_enter Try.func142,Try.ntmps142;go_wp2;go_ret;exact⟨rfl,bn_ _⟩
 ·obtain⟨b',c',hb',k,kj⟩:=hT i (by omega)
  have kj:=kj j hj;have hbl:=(Below.refl w.heap.size w).alloc lr_ (.cells #[vS,.slice (some ⟨bT,0,none⟩) N cT,.slice (some ⟨bR,0,none⟩) N cR] 146);have k2:=hbl.cell (p:=⟨bT,i,none⟩) (World.block_lt_of_cell? w _ k);rw [k] at k2;have k3:=hbl.cell (p:=⟨b',j,none⟩) hb';rw [kj] at k3;have i0:=nz_ i;have i1:(i:Int)<(N:Int):=by omega
  have j0:=nz_ j;have j1:(j:Int)<(J:Int):=by omega
  have q1:((i:Int) == (N:Int))=false:=by simp;omega
  have q2:¬(i:Int)=(N:Int):=by omega
  generalize To i j=r at *;clear hT k kj hbl;by_cases c:r<0
  ·rw [if_pos (.inr c)]
   have d1:decide (r<0)=true:=decide_eq_true c;go_enter Try.func142,Try.ntmps142;go_wp2;go_ret;exact⟨rfl,bn_ _⟩
  ·rw [if_neg (by omega)]
   have d1:decide (r<0)=false:=decide_eq_false c;go_enter Try.func142,Try.ntmps142;go_wp2;go_ret;exact⟨rfl,bn_ _⟩
theorem Mch.below {w w':World} {vT vR:Value} {N J:Nat} {To:Nat→Nat→Int} {Ru:Nat→Int} (h:Mch w vT vR N J To Ru) (hb:Below w.heap.size w w'):Mch w' vT vR N J To Ru:=by
 obtain⟨⟨b,c,e,ht⟩,⟨b2,c2,e2,hr⟩⟩:=h
 refine⟨⟨b,c,e,fun i hi=>?_⟩,⟨b2,c2,e2,fun i hi=>?_⟩⟩
 ·obtain⟨b',c',hl,h1,h2⟩:=ht i hi
  refine⟨b',c',Nat.lt_of_lt_of_le hl hb.size,?_,fun j hj=>?_⟩
  ·rw [hb.cell (p:=⟨b,i,none⟩) (World.block_lt_of_cell? w _ h1)];exact h1
  ·rw [hb.cell (p:=⟨b',j,none⟩) hl];exact h2 j hj
 ·have h1:=hr i hi
  rw [hb.cell (p:=⟨b2,i,none⟩) (World.block_lt_of_cell? w _ h1)];exact h1
structure Tb (W:World) (gd n i:Nat) (gs:List Nat) (d:Nat→Nat→Bool):Prop where
 b:Blk W gd 148 (blsC n gs++List.replicate (n-i) (.slice none 0 0))
 len:gs.length=i
 row:∀a g,gs[a]?=some g→Bl W g n (d a)
 nd:gs.Nodup
section
variable {W W':World} {gd n i:Nat} {gs:List Nat} {d d':Nat→Nat→Bool}
theorem Tb.below (h:Tb W gd n i gs d) (hb:Below W.heap.size W W'):Tb W' gd n i gs d:=
 ⟨blk_below h.b hb (blk_lt h.b),h.len,fun a g e=>blk_below (h.row a g e) hb (blk_lt (h.row a g e)),h.nd⟩
theorem Tb.congr (h:Tb W gd n i gs d) (e:∀a k,a<i→k<n→d a k=d' a k):Tb W gd n i gs d':=
 ⟨h.b,h.len,fun a g hg=>(h.row a g hg).congr (fun k hk=>e a k (by rw [←h.len];exact (List.getElem?_eq_some_iff.1 hg).1) hk),h.nd⟩
theorem blsC_len (n:Nat) (gs:List Nat):(blsC n gs).length=gs.length:=by simp [blsC]
theorem Tb.get (h:Tb W gd n i gs d) {a g:Nat} (hg:gs[a]?=some g):W.cell? ⟨gd,a,none⟩=some (rowV g n):=by
 have hl:=(List.getElem?_eq_some_iff.1 hg).1
 refine blk_cell h.b ?_
 rw [List.getElem?_append_left (by rw [blsC_len];exact hl)]
 exact blsC_get hg
theorem Tb.at (h:Tb W gd n i gs d) {a k:Nat} (ha:a<i) (hk:k<n):∃g,gs[a]?=some g∧W.cell? ⟨gd,a,none⟩=some (.slice (some ⟨g,0,none⟩) n n)∧W.cell? ⟨g,k,none⟩=some (.bool (d a k))∧W.frozen? ⟨g,k,none⟩=false:=by
 obtain⟨g,hg⟩:∃g,gs[a]?=some g:=⟨_,List.getElem?_eq_getElem (by rw [h.len];exact ha)⟩
 exact⟨g,hg,h.get hg,blk_cell (h.row a g hg) (bln_get _ hk),blk_frozen (h.row a g hg) k⟩
theorem Tb.set (h:Tb W gd n i gs d) {a g:Nat} (ha:gs[a]?=some g) (k:Nat) (b:Bool):Tb (W.setCell ⟨g,k,none⟩ (.bool b)) gd n i gs (Pu.setD d a k b):=by
 have hg:=Lib.grownBy_setCell W g k (.bool b)
 have hr:=h.row a g ha
 refine⟨blk_grown h.b hg (fun e=>by cases e;exact blk_ne2 h.b hr (by decide) rfl),h.len,?_,h.nd⟩
 intro j g' hj
 by_cases e:j=a
 ·subst e
  rw [ha] at hj;cases hj;exact (hr.set k b).congr (fun c _=>by unfold Pu.setD setB;simp)
 ·have ne:g'≠g:=by
   intro e';subst e';have h1:=(List.getElem?_eq_some_iff.1 ha);have h2:=(List.getElem?_eq_some_iff.1 hj);exact e ((List.getElem_inj (h₀:=h2.1) (h₁:=h1.1) h.nd).1 (h2.2.trans h1.2.symm))
  exact Bl.congr (f:=d j) (blk_grown (h.row j g' hj) hg (fun e'=>ne (Option.some.inj e'))) (fun c _=>by unfold Pu.setD;rw [if_neg (fun h=>e h.1)])
theorem Tb.add (h:Tb W gd n i gs d) (hi:i<n):Tb ((W.alloc (.cells (bln n (fun _=>false)).toArray 4)).setCell ⟨gd,i,none⟩ (rowV W.heap.size n)) gd n (i+1) (gs++[W.heap.size]) (fun a k=>decide (a<i) && d a k):=by
 have h1:=h.below ((Below.refl W.heap.size W).alloc lr_ (.cells (bln n (fun _=>false)).toArray 4))
 have hs:=Lib.grownBy_setCell (W.alloc (.cells (bln n (fun _=>false)).toArray 4)) gd i (rowV W.heap.size n)
 have hn:Bl (W.alloc (.cells (bln n (fun _=>false)).toArray 4)) W.heap.size n (fun _=>false):=heap_alloc_new _ _
 refine⟨?_,by rw [List.length_append,h.len];rfl,fun a g hg=>?_,?_⟩
 ·have:=blk_set h1.b i (rowV W.heap.size n)
  have e:(blsC n gs++List.replicate (n-i) (Value.slice none 0 0)).set i (rowV W.heap.size n)=blsC n (gs++[W.heap.size])++List.replicate (n-(i+1)) (.slice none 0 0):=by
   rw [List.set_append_right _ _ (by rw [blsC_len,h.len];exact lr_),blsC_len,h.len,Nat.sub_self,show n-i=(n-(i+1))+1 by omega,List.replicate_succ,List.set_cons_zero];unfold blsC;rw [List.map_append,List.append_assoc];rfl
  rw [e] at this;exact this
 ·rcases Pu.snoc_get hg with ⟨hl,h2⟩ | ⟨e1,e2⟩
  ·have h3:=h1.row a g h2
   exact Bl.congr (f:=d a) (blk_grown h3 hs (fun e=>blk_ne2 h3 h1.b (by decide) (Option.some.inj e))) (fun k _=>by rw [decide_eq_true (by rw [←h.len];exact hl),Bool.true_and])
  ·subst e2
   exact Bl.congr (f:=fun _=>false) (blk_grown hn hs (fun e=>blk_ne2 hn h1.b (by decide) (Option.some.inj e))) (fun k _=>by rw [decide_eq_false (by rw [e1,h.len];omega),Bool.false_and])
 ·rw [List.nodup_append]
  refine⟨h.nd,by simp,fun a ha b hb=>?_⟩;simp at hb;subst hb;obtain⟨j,hj,e⟩:=List.mem_iff_getElem.1 ha;have:=blk_lt (h.row j a (by rw [List.getElem?_eq_getElem hj,e]));omega
end
structure TP (w:World) (gm:Nat) (vS vT vR:Value) (gd n i:Nat) (gs:List Nat) (d:Nat→Nat→Bool) (W:World):Prop where
 be:Below w.heap.size w W
 m:Blk W gm 146 [vS,vT,vR]
 t:Tb W gd n i gs d
 lo:∀g∈gs,w.heap.size≤g
 gl:w.heap.size≤gd
section
variable {w:World} {gm:Nat} {vS vT vR:Value} {gd n i:Nat} {gs:List Nat} {d d':Nat→Nat→Bool} {W W':World}
theorem TP.below (h:TP w gm vS vT vR gd n i gs d W) (hb:Below W.heap.size W W'):TP w gm vS vT vR gd n i gs d W':=
 ⟨bel0 h.be hb,blk_below h.m hb (blk_lt h.m),h.t.below hb,h.lo,h.gl⟩
theorem TP.congr (h:TP w gm vS vT vR gd n i gs d W) (e:∀a k,a<i→k<n→d a k=d' a k):TP w gm vS vT vR gd n i gs d' W:=
 ⟨h.be,h.m,h.t.congr e,h.lo,h.gl⟩
theorem TP.set (h:TP w gm vS vT vR gd n i gs d W) {a g:Nat} (ha:gs[a]?=some g) (k:Nat) (b:Bool):TP w gm vS vT vR gd n i gs (Pu.setD d a k b) (W.setCell ⟨g,k,none⟩ (.bool b)):=
 have hr:=h.t.row a g ha
 ⟨h.be.setCell (h.lo g (List.mem_of_getElem? ha)) _,blk_grown h.m (Lib.grownBy_setCell W g k (.bool b)) (fun e=>blk_ne2 h.m hr (by decide) (Option.some.inj e)),h.t.set ha k b,h.lo,h.gl⟩
theorem TP.add (h:TP w gm vS vT vR gd n i gs d W) (hi:i<n):TP w gm vS vT vR gd n (i+1) (gs++[W.heap.size]) (fun a k=>decide (a<i) && d a k) ((W.alloc (.cells (bln n (fun _=>false)).toArray 4)).setCell ⟨gd,i,none⟩ (rowV W.heap.size n)):=by
 have hb:=(Below.refl W.heap.size W).alloc lr_ (.cells (bln n (fun _=>false)).toArray 4)
 have h1:=h.below hb
 refine⟨h1.be.setCell h.gl _,blk_grown h1.m (Lib.grownBy_setCell _ gd i (rowV W.heap.size n)) (fun e=>blk_ne2 h1.m h1.t.b (by decide) (Option.some.inj e)),h.t.add hi,fun g hg=>?_,h.gl⟩
 rcases List.mem_append.1 hg with hg | hg
 ·exact h.lo g hg
 ·simp at hg
  subst hg;exact h.be.size
end
namespace Pu
def intAt (xs:List Value) (j:Nat):Int:=match xs[j]? with
 | some (.int .i64 y)=>y
 | _=>0
def toOf (tc:List (List Value)) (i j:Nat):Int:=intAt (tc.getD i []) j
theorem intAt_of {xs:List Value} {j:Nat} {y:Int} (h:xs[j]?=some (.int .i64 y)):intAt xs j=y:=by unfold intAt;rw [h]
section
variable {ls:List Ln} {ns:List Nd} {mode:Int} {R:List Nat} {S:List (Nat→Bool)} {tc:List (List Value)} {rs:List Value}
theorem MC.at (hm:MC ls ns mode R S tc rs) {i:Nat} (hi:i<tc.length):∃x,tc[i]?=some x∧tc.getD i []=x∧x.length=R.length∧∀j d,R[j]?=some d→x[j]?=some (.int .i64 (toOf tc i j))∧Lead ns.length S (stepN ns (fiG ls mode ls.length) (foG ls mode ls.length) (rowD S i) (decide (i=0)) d) (toOf tc i j):=by
 have hx:=List.getElem?_eq_getElem hi
 refine⟨_,hx,by rw [List.getD_eq_getElem?_getD,hx];rfl,(hm.lead i _ hx).2.1,fun j d hd=>?_⟩
 obtain⟨y,h1,h2⟩:=(hm.lead i _ hx).2.2 j d (get_lt hd) hd
 have e:toOf tc i j=y:=by
  unfold toOf;rw [List.getD_eq_getElem?_getD,hx];exact intAt_of h1
 rw [e]
 exact⟨h1,h2⟩
theorem MC.rat (hm:MC ls ns mode R S tc rs) {i:Nat} (hi:i<rs.length):rs[i]?=some (.int .i64 (intAt rs i))∧RuleR ls mode ns.length (rowD S i) 0 (intAt rs i):=by
 have hx:=List.getElem?_eq_getElem hi
 obtain⟨_,r,h1,h2⟩:=hm.ru i _ hx
 rw [h1] at hx
 rw [intAt_of hx]
 exact⟨hx,h2⟩
theorem MC.inn (hm:MC ls ns mode R S tc rs) (hl:tc.length=S.length):∀i c,i<S.length→c<R.length→toOf tc i c<(S.length:Int):=fun i c hi hc=>by
 obtain⟨x,_,_,_,h⟩:=hm.at (by omega:i<tc.length)
 obtain⟨_,h2⟩:=h c _ (List.getElem?_eq_getElem hc)
 rcases h2 with ⟨_,h2⟩ | ⟨_,k,h2,_,h3,_⟩
 ·omega
 ·omega
theorem MC.dm {S:List (Nat→Bool)} (hm:MC ls ns mode (repsN ns 256) S tc rs) (hS:machS ls ns mode=S) (hl:tc.length=S.length) (hr:rs.length=tc.length):DM ls ns mode S.length (toOf tc) (intAt rs):=by
 refine⟨by rw [hS],fun i j d hi hd=>?_,fun i hi=>?_⟩
 ·rw [hS]
  obtain⟨x,_,_,_,h⟩:=hm.at (by omega:i<tc.length);exact (h j d hd).2
 ·rw [hS]
  exact (hm.rat (by omega)).2
end
end Pu
theorem mch_of {W:World} {B:Nat} {ls:List Pu.Ln} {ns:List Pu.Nd} {mode:Int} {R:List Nat} {S:List (Nat→Bool)} {ts rs:List Value} {tc:List (List Value)} {vT vR:Value} (h1:W.ownsRow B 22 1 vT ts.length ts) (h2:W.ownsRow B 3 1 vR rs.length rs) (h3:ts.length=tc.length) (h4:rs.length=tc.length)
  (h5:∀(i:Nat) (v:Value) (x:List Value),ts[i]?=some v→tc[i]?=some x→W.ownsRow B 3 1 v x.length x) (hm:Pu.MC ls ns mode R S tc rs) (hl:tc.length=S.length) (hS:0<S.length) (hR:0<R.length):Mch W vT vR S.length R.length (Pu.toOf tc) (Pu.intAt rs):=by
 obtain⟨gT,cT,eT,_,_⟩:=own_some h1 (by omega)
 obtain⟨gR,cR,eR,_,_⟩:=own_some h2 (by omega)
 subst eT eR
 refine⟨⟨gT,cT,by rw [h3,hl],fun i hi=>?_⟩,⟨gR,cR,by rw [h4,hl],fun i hi=>?_⟩⟩
 ·obtain⟨x,hx,_,hxl,h⟩:=hm.at (by omega:i<tc.length)
  have hv:=List.getElem?_eq_getElem (show i<ts.length by omega);have h6:=h5 i _ x hv hx;obtain⟨g',c',e',_,_⟩:=own_some h6 (by omega);have h7:=own_cell h1 hv;rw [e'] at h6 h7;refine⟨g',c',(World.ownsRow.lt h6 g' rfl).2,by rw [h7,hxl],fun j hj=>?_⟩;obtain⟨h8,_⟩:=h j _ (List.getElem?_eq_getElem hj);exact own_cell h6 h8
 ·exact own_cell h2 (hm.rat (by omega)).1
end Go.Proofs.Ytmccnmgaoppogaa
