/-
 The walks: the document's machine: the graph is laid. (weirref)
-/
import Derived.Test.YtmccnmgaoppogaaGreatHI
namespace Go.Proofs.YtmccnmgaoppogaaGreat
open Go.RowKit
theorem bls_info:(Tryz.prog.info? 203).map (fun i=>(i.zero,i.size,i.bytes))=some (some (.slice none 0 0),1,24):=by kernel_rfl
theorem sl_fill (a:Option Addr) (n c:Nat):Instr.fill (fun i=>some (i*1,1)) ((Array.range (1*1)).map fun j=>((Value.slice none 0 0).cells)[j % (Value.slice none 0 0).cells.size]!) [(0,.slice a n c)]=some #[.slice a n c]:=by
 rw [range_map]
 rfl
abbrev rowW (W:World) (n:Nat):World:=((W.alloc (.cells (bln n (fun _=>false)).toArray 4)).alloc (.cells #[.slice (some ⟨W.heap.size,0,none⟩) n n] 203)).drew
theorem rowW_below (W:World) (n:Nat):Below W.heap.size W (rowW W n):=((bn_ _).alloc (by simp) _).drew
theorem rowW_row (W:World) (n:Nat):Bl (rowW W n) W.heap.size n (fun _=>false):=blk_alloc (heap_alloc_new W _) _
theorem made_sl (n:Nat):madeCells (Value.slice none 0 0).cells (n*1)=(List.replicate n (.slice none 0 0)).toArray:=by
 unfold madeCells
 refine Array.ext (by simp) (fun i h1 h2=>?_)
 simp [Value.cells,Nat.mod_one]
theorem make_sl (n:Nat) (hn:n≤100000) (w:World):(Instr.makeSlice 102 (.int .i64 (n:Int)) (.int .i64 (n:Int))).run Tryz.prog w=.ok (.slice (some ⟨w.heap.size,0,none⟩) n n) (w.alloc (.cells (Array.replicate n (.slice none 0 0)) 203)):=by
 obtain⟨i,h1,h2,h3,h4⟩:=info_parts bls_info
 have:=run_make (P:=Tryz.prog) w 102 203 i (.slice none 0 0) Tryz.underlying102 h1 h2 .i64 .i64 (n:Int) (n:Int) (by omega) (Int.le_refl _) (by rw [h4];omega) (by omega)
 rw [this,h3,Int.toNat_natCast,made_sl]
 rfl
theorem rowW_new (W:World) (n:Nat):Blk (rowW W n) (W.alloc (.cells (bln n (fun _=>false)).toArray 4)).heap.size 203 [.slice (some ⟨W.heap.size,0,none⟩) n n]:=
 heap_alloc_new (W.alloc (.cells (bln n (fun _=>false)).toArray 4)) (.cells #[.slice (some ⟨W.heap.size,0,none⟩) n n] 203)
structure GP (w:World) (g r gg n:Nat) (vf:Value) (gs:List Nat) (W:World):Prop where
 b:Blk W gg 202 [.pointer (some ⟨g,0,none⟩),vf]
 own:W.ownsRow w.heap.size 203 1 vf gs.length (blsC n gs)
 row:∀g'∈gs,Bl W g' n (fun _=>false)
 nd:gs.Nodup
 be:Below w.heap.size w W
 gl:w.heap.size≤gg
 r0:Blk W r 163 [.slice none 0 0,.slice none 0 0,.slice none 0 0]
 rl:w.heap.size≤r
 lo:∀g'∈gs,w.heap.size≤g'
section
variable {w:World} {g r gg n:Nat} {vf:Value} {gs:List Nat} {W W':World}
theorem GP.below (h:GP w g r gg n vf gs W) (hb:Below W.heap.size W W'):GP w g r gg n vf gs W':=
 ⟨blk_below h.b hb (blk_lt h.b),own_below h.own hb lr_,fun g' hg=>blk_below (h.row g' hg) hb (blk_lt (h.row g' hg)),h.nd,h.be.trans (hb.mono h.be.size),h.gl,blk_below h.r0 hb (blk_lt h.r0),h.rl,h.lo⟩
theorem GP.add (h:GP w g r gg n vf gs W) {g2 cap2:Nat} {w2:World} (ho:w2.ownsRow w.heap.size 203 1 (.slice (some ⟨g2,0,none⟩) (gs.length+1) cap2) (gs.length+1) (blsC n gs++[.slice (some ⟨W.heap.size,0,none⟩) n n])) (hg:(rowW W n).grownBy w2 vf.ownBlock) :
  GP w g r gg n (.slice (some ⟨g2,0,none⟩) (gs.length+1) cap2) (gs++[W.heap.size]) (w2.setCell ⟨gg,1,none⟩ (.slice (some ⟨g2,0,none⟩) (gs.length+1) cap2)):=by
 have h2:=h.below (rowW_below W n)
 have hs:=Lib.grownBy_setCell w2 gg 1 (.slice (some ⟨g2,0,none⟩) (gs.length+1) cap2)
 have b2:=row_far h2.own h2.b (by decide) hg
 have r2:=row_far h2.own h2.r0 (by decide) hg
 refine⟨blk_set b2 1 _,?_,fun g' hm=>?_,?_,?_,h.gl,?_,h.rl,fun g' hm=>?_⟩
 ·have:=row_apart ho b2 (by decide) hs
  rw [List.length_append,blsC_append];exact this
 ·have k:Bl (rowW W n) g' n (fun _=>false):=by
   rcases List.mem_append.1 hm with hm | hm
   ·exact h2.row g' hm
   ·simp at hm
    subst hm;exact rowW_row W n
  have k2:=row_far h2.own k (by decide) hg;exact blk_grown k2 hs (fun e=>blk_ne2 k2 b2 (by decide) (Option.some.inj e))
 ·rw [List.nodup_append]
  refine⟨h.nd,by simp,fun a ha b hb=>?_⟩;simp at hb;subst hb;have:=blk_lt (h.row a ha);omega
 ·have hl:w.heap.size≤(rowW W n).heap.size:=Nat.le_trans h.be.size (rowW_below W n).size
  have c1:Below w.heap.size w w2:=h2.be.grown hg hl (fun k e=>(World.ownsRow.lt h2.own k e).1);exact c1.grown hs c1.size (fun k e=>by cases e;exact h.gl)
 ·exact blk_grown r2 hs (fun e=>blk_ne2 r2 b2 (by decide) (Option.some.inj e))
 ·rcases List.mem_append.1 hm with hm | hm
  ·exact h.lo g' hm
  ·simp at hm
   subst hm;exact h.be.size
end
theorem own_off {w w':World} {base e size n:Nat} {v:Value} {xs:List Value} {row:Option Nat} (h:w.ownsRow base e size v n xs) (hne:∀k,v.ownBlock=some k→some k≠row) (hg:w.grownBy w' row):w'.ownsRow base e size v n xs:=by
 refine⟨h.1,?_⟩
 rcases h.2 with h0 | ⟨g',cap,cur,h1,h2,h3,h4⟩
 ·exact .inl h0
 ·refine .inr ⟨g',cap,cur,h1,h2,?_,h4⟩
  rw [hg.block g' (Array.getElem?_eq_some_iff.1 h3).1 (hne g' (by rw [h1];rfl))];exact h3
structure ML (w:World) (ls:List Pure.Ln) (mode:Int) (g r gg gf cap n gl B1 i gF:Nat) (gs:List Nat) (lst:List Value) (W:World):Prop where
 be:Below w.heap.size w W
 gf':Gf W gg g gf cap n gs (Pure.foG ls mode i)
 fi:Bl W gF n (Pure.fiG ls mode i)
 la:Blk W gl 203 lst
 ll:lst.length=ls.length
 lr:∀(j:Nat) (x:Pure.Ln),ls[j]?=some x→∃v,lst[j]?=some v∧(j<i∧x.mode=mode→∃g',v=rowV g' n∧B1≤g'∧Bl W g' n (Pure.laN x.re (Pure.nbase (ls.take j))))∧(¬(j<i∧x.mode=mode)→v=.slice none 0 0)
 r0:Blk W r 163 [.slice none 0 0,.slice none 0 0,.slice none 0 0]
 rl:w.heap.size≤r
 up:∀g'∈gs,g'<B1
 fl:B1≤gF
 lo:B1≤gl
 wb:w.heap.size≤B1
 gw:∀g'∈gs,w.heap.size≤g'
 gfl:gf<B1
section
variable {w:World} {ls:List Pure.Ln} {mode:Int} {g r gg gf cap n gl B1 i gF:Nat} {gs:List Nat} {lst:List Value} {W W':World}
theorem ML.below (h:ML w ls mode g r gg gf cap n gl B1 i gF gs lst W) (hb:Below W.heap.size W W'):ML w ls mode g r gg gf cap n gl B1 i gF gs lst W':=
 ⟨h.be.trans (hb.mono h.be.size),h.gf'.below hb,blk_below h.fi hb (blk_lt h.fi),blk_below h.la hb (blk_lt h.la),h.ll,fun j x hj=>by
  obtain⟨v,h1,h2,h3⟩:=h.lr j x hj;refine⟨v,h1,fun c=>?_,h3⟩;obtain⟨g',e1,e2,e3⟩:=h2 c
  exact⟨g',e1,e2,blk_below e3 hb (blk_lt e3)⟩,blk_below h.r0 hb (blk_lt h.r0),h.rl,h.up,h.fl,h.lo,h.wb,h.gw,h.gfl⟩
theorem ML.skip (h:ML w ls mode g r gg gf cap n gl B1 i gF gs lst W) {x:Pure.Ln} (hx:ls[i]?=some x) (hm:x.mode≠mode):ML w ls mode g r gg gf cap n gl B1 (i+1) gF gs lst W:=by
 refine⟨h.be,h.gf'.congr (fun a c _ _=>?_),h.fi.congr (fun k _=>?_),h.la,h.ll,fun j y hj=>?_,h.r0,h.rl,h.up,h.fl,h.lo,h.wb,h.gw,h.gfl⟩
 ·show _=(Pure.foG ls mode i a c || Pure.foL ls mode i a c)
  unfold Pure.foL;rw [hx];simp [hm]
 ·show _=(Pure.fiG ls mode i k || Pure.fiL ls mode i k)
  unfold Pure.fiL;rw [hx];simp [hm]
 ·obtain⟨v,h1,h2,h3⟩:=h.lr j y hj
  refine⟨v,h1,fun c=>h2 ⟨?_,c.2⟩,fun c=>h3 (fun c'=>c ⟨by omega,c'.2⟩)⟩;by_cases e:j=i
  ·subst e
   rw [hx] at hj;cases hj;exact absurd c.2 hm
  ·omega
theorem Gk.bel {B:Nat} (hk:Gk gs W W') (hg:∀g'∈gs,B≤g'):Below B w W→B≤W.heap.size→Below B w W':=by
 intro h hs
 exact⟨hk.os.trans h.os,hk.tape.trans h.tape,hk.output.trans h.output,Nat.le_trans h.size hk.size,fun k hkl=>(hk.block k (Nat.lt_of_lt_of_le hkl hs) (fun e=>by have:=hg _ e;omega)).trans (h.block k hkl)⟩
theorem ML.marked (h:ML w ls mode g r gg gf cap n gl B1 i gF gs lst W) (hk:Gk gs W W') {fo':Nat→Nat→Bool} (hf:Gf W' gg g gf cap n gs fo') {x:Pure.Ln} (hx:ls[i]?=some x) (hm:x.mode=mode) (hfo:∀a c,fo' a c=(Pure.foG ls mode i a c || Pure.foN x.re (Pure.nbase (ls.take i)) a c)) {gF' gb:Nat} {W2:World} (hb:Below W'.heap.size W' W2) (hF:Bl W2 gF' n (fun k=>Pure.fiG ls mode i k || Pure.fiN x.re (Pure.nbase (ls.take i)) k)) (lF:B1≤gF') (hbb:Bl W2 gb n (Pure.laN x.re (Pure.nbase (ls.take i)))) (lb:B1≤gb) :
  ML w ls mode g r gg gf cap n gl B1 (i+1) gF' gs (lst.set i (rowV gb n)) (W2.setCell ⟨gl,i,none⟩ (rowV gb n)):=by
 have nlo:∀k,B1≤k→k∉gs:=fun k hk' e=>by have:=h.up _ e;omega
 have la1:=hk.blk h.la (nlo _ h.lo)
 have la2:=blk_below la1 hb (blk_lt la1)
 have r1:=hk.blk h.r0 (h.gf'.notin h.r0 (by decide))
 have r2:=blk_below r1 hb (blk_lt r1)
 have hs:=Lib.grownBy_setCell W2 gl i (rowV gb n)
 have f2:=(hf.below hb)
 have be1:=hk.bel h.gw h.be (Nat.le_trans h.wb (Nat.le_of_lt (Nat.lt_of_le_of_lt h.lo (blk_lt h.la))))
 have be2:Below w.heap.size w W2:=be1.trans (hb.mono be1.size)
 have il:i<lst.length:=by rw [h.ll];exact Pure.get_lt hx
 refine⟨be2.grown hs be2.size (fun k e=>by cases e;exact Nat.le_trans h.wb h.lo),?_,?_,blk_set la2 i _,by rw [List.length_set];exact h.ll,fun j y hj=>?_,?_,h.rl,h.up,lF,h.lo,h.wb,h.gw,h.gfl⟩
 ·refine Gf.congr (fo:=fo') ⟨blk_grown f2.b hs (fun e=>blk_ne2 f2.b la2 (by decide) (Option.some.inj e)),?_,f2.len,fun j g' e=>blk_grown (f2.row j g' e) hs (fun e'=>blk_ne2 (f2.row j g' e) la2 (by decide) (Option.some.inj e')),f2.nd⟩ (fun a c _ _=>?_)
  ·exact own_off f2.own (fun k e e'=>by have h1:gf=k:=Option.some.inj e;have h2:=Option.some.inj e';have:=h.gfl;have:=h.lo;omega) hs
  ·rw [hfo]
   show _=(Pure.foG ls mode i a c || Pure.foL ls mode i a c);unfold Pure.foL;rw [hx];simp [hm]
 ·refine (Bl.congr (f:=fun k=>Pure.fiG ls mode i k || Pure.fiN x.re (Pure.nbase (ls.take i)) k) (blk_grown hF hs (fun e=>blk_ne2 hF la2 (by decide) (Option.some.inj e))) (fun k _=>?_))
  show _=(Pure.fiG ls mode i k || Pure.fiL ls mode i k);unfold Pure.fiL;rw [hx];simp [hm]
 ·by_cases e:j=i
  ·subst e
   rw [hx] at hj;cases hj;refine⟨rowV gb n,by rw [List.getElem?_set_self il],fun _=>⟨gb,rfl,lb,blk_grown hbb hs (fun e=>blk_ne2 hbb la2 (by decide) (Option.some.inj e))⟩,fun c=>absurd ⟨Nat.lt_succ_self _,hm⟩ c⟩
  ·obtain⟨v,h1,h2,h3⟩:=h.lr j y hj
   refine⟨v,by rw [List.getElem?_set_ne (fun a=>e a.symm)];exact h1,fun c=>?_,fun c=>h3 (fun c'=>c ⟨by omega,c'.2⟩)⟩;obtain⟨g',e1,e2,e3⟩:=h2 ⟨by omega,c.2⟩;have e4:=hk.blk e3 (nlo _ e2);have e5:=blk_below e4 hb (blk_lt e4);exact⟨g',e1,e2,blk_grown e5 hs (fun e=>blk_ne2 e5 la2 (by decide) (Option.some.inj e))⟩
 ·exact blk_grown r2 hs (fun e=>blk_ne2 r2 la2 (by decide) (Option.some.inj e))
end
theorem wpList_append_one {w:World} {ops:Array Oper} {rest:List Oper} {o:Oper} {a:Act} {Q:Exit→Act→World→Prop} (hgd:o.guard=none) (s x:Operand) (t e:TypeId)
  (ho:o.op=.call { callee:=.builtin .append,args:=#[s,x],argTypes:=#[t,t] }) (z:Value) (bytes:Nat) (hu:Tryz.prog.underlying t=some (.slice e)) (hi:(Tryz.prog.info? e).map (fun i=>(i.zero,i.size,i.bytes))=some (some z,1,bytes)) (hzc:z.cells.size=1) (hby:bytes≤24)
  (base:Nat) (v:Value) (vs:List Value) (hs:a.eval s=v) (hown:w.ownsRow base e 1 v vs.length vs)
  (gx:Nat) (q:Value) (hx:a.eval x=.slice (some ⟨gx,0,none⟩) 1 1) (hb:Blk w gx e [q]) (hq:q.oneCell'=true) (hlen:vs.length≤1000) (hbase:base≤w.heap.size)
  (h:∀v' w',w'.ownsRow base e 1 v' (vs++[q]).length (vs++[q])→w.grownBy w' v.ownBlock→wpList Tryz.prog ops Q rest (a.put o.dst v') w'):wpList Tryz.prog ops Q (o::rest) a w:=by
 obtain⟨il,hil,hl0,hl1,hl2⟩:=info_parts hi
 refine wpList_append_own _ hgd s x t ho base e il _ 1 bytes hu hil hl0 hl1 hl2 hzc (by decide) v vs.length vs hs hown ⟨gx,0,none⟩ 1 1 [q] hx rfl ?_ (fun u hu=>by simp at hu;rw [hu];exact hq) (by unfold maxLen;omega) ?_ hbase ?_
 ·intro j y hy
  have:=blk_cell hb hy;simpa [add_eq] using this
 ·have:(vs.length+1)*bytes≤1001*24:=Nat.mul_le_mul (by omega) hby
  omega
 ·intro v' w' h1 h2 _
  refine h v' w' ?_ h2;rw [List.length_append];exact h1
theorem ints_info:(Tryz.prog.info? 31).map (fun i=>(i.zero,i.size,i.bytes))=some (some (.slice none 0 0),1,24):=by kernel_rfl
theorem int_info3:(Tryz.prog.info? 3).map (fun i=>(i.zero,i.size,i.bytes))=some (some (.int .i64 0),1,8):=by kernel_rfl
structure MS (W1:World) (n go:Nat) (vS vT vR:Value) (gss:List Nat) (S:List (Nat→Bool)) (ts rs:List Value) (W:World):Prop where
 be:Below W1.heap.size W1 W
 b:Blk W go 163 [vS,vT,vR]
 s:Bls W1.heap.size W vS n gss S
 t:W.ownsRow W1.heap.size 31 1 vT ts.length ts
 r:W.ownsRow W1.heap.size 3 1 vR rs.length rs
 lo:W1.heap.size≤go
section
variable {W1 W W' w2:World} {n go:Nat} {vS vT vR v2:Value} {gss:List Nat} {S:List (Nat→Bool)} {ts rs:List Value}
theorem MS.below (h:MS W1 n go vS vT vR gss S ts rs W) (hb:Below W.heap.size W W'):MS W1 n go vS vT vR gss S ts rs W':=
 ⟨h.be.trans (hb.mono h.be.size),blk_below h.b hb (blk_lt h.b),h.s.below hb,own_below h.t hb lr_,own_below h.r hb lr_,h.lo⟩
theorem MS.grow (h:MS W1 n go vS vT vR gss S ts rs W) {Bt k:Nat} {vt:Value} {xs:List Value} (ho:W.ownsRow Bt 3 1 vt k xs) (hlt:∀b,vR.ownBlock=some b→b<Bt) (hB:W1.heap.size≤Bt) (hg:W.grownBy W' vt.ownBlock):MS W1 n go vS vT vR gss S ts rs W':=
 ⟨h.be.grown hg h.be.size (fun k e=>Nat.le_trans hB (World.ownsRow.lt ho k e).1),row_far ho h.b (by decide) hg,⟨rows_apart h.s.own ho (by decide) hg,h.s.len,fun i g f h1 h2=>row_far ho (h.s.row i g f h1 h2) (by decide) hg⟩,rows_apart h.t ho (by decide) hg,own_off h.r (fun k e e'=>by have:=hlt k e;have:=(World.ownsRow.lt ho k e'.symm).1;omega) hg,h.lo⟩
theorem MS.addS (h:MS W1 n go vS vT vR gss S ts rs W) {gN:Nat} {s:Nat→Bool} (hs:Bl W gN n s) (ho:w2.ownsRow W1.heap.size 203 1 v2 (blsC n gss++[rowV gN n]).length (blsC n gss++[rowV gN n])) (hg:W.grownBy w2 vS.ownBlock) :
  MS W1 n go v2 vT vR (gss++[gN]) (S++[s]) ts rs (w2.setCell ⟨go,0,none⟩ v2):=by
 have b2:=row_far h.s.own h.b (by decide) hg
 have g2:=Lib.grownBy_setCell w2 go 0 v2
 have be2:Below W1.heap.size W1 w2:=h.be.grown hg h.be.size (fun k e=>(World.ownsRow.lt h.s.own k e).1)
 refine⟨be2.grown g2 be2.size (fun k e=>by cases e;exact h.lo),blk_set b2 0 _,⟨?_,by simp [h.s.len],fun i g f h1 h2=>?_⟩,row_apart (rows_apart h.t h.s.own (by decide) hg) b2 (by decide) g2,row_apart (rows_apart h.r h.s.own (by decide) hg) b2 (by decide) g2,h.lo⟩
 ·have:=row_apart ho b2 (by decide) g2
  rw [blsC_append,List.length_append];rw [List.length_append,blsC_length] at this;exact this
 ·have k1:Bl W g n f:=by
   rcases Pure.snoc_get h1 with ⟨hl,h1'⟩ | ⟨e1,e2⟩
   ·refine h.s.row i g f h1' ?_
    rw [List.getElem?_append_left (by rw [←h.s.len];exact hl)] at h2;exact h2
   ·subst e2
    rw [e1,h.s.len] at h2;simp at h2;rw [←h2];exact hs
  have k2:=row_far h.s.own k1 (by decide) hg;exact blk_grown k2 g2 (fun e=>blk_ne2 k2 b2 (by decide) (Option.some.inj e))
theorem MS.addT (h:MS W1 n go vS vT vR gss S ts rs W) {q:Value} (ho:w2.ownsRow W1.heap.size 31 1 v2 (ts++[q]).length (ts++[q])) (hg:W.grownBy w2 vT.ownBlock) :
  MS W1 n go vS v2 vR gss S (ts++[q]) rs (w2.setCell ⟨go,1,none⟩ v2):=by
 have b2:=row_far h.t h.b (by decide) hg
 have g2:=Lib.grownBy_setCell w2 go 1 v2
 have be2:Below W1.heap.size W1 w2:=h.be.grown hg h.be.size (fun k e=>(World.ownsRow.lt h.t k e).1)
 refine⟨be2.grown g2 be2.size (fun k e=>by cases e;exact h.lo),blk_set b2 1 _,⟨row_apart (rows_apart h.s.own h.t (by decide) hg) b2 (by decide) g2,h.s.len,fun i g f h1 h2=>?_⟩,row_apart ho b2 (by decide) g2,row_apart (rows_apart h.r h.t (by decide) hg) b2 (by decide) g2,h.lo⟩
 have k2:=row_far h.t (h.s.row i g f h1 h2) (by decide) hg
 exact blk_grown k2 g2 (fun e=>blk_ne2 k2 b2 (by decide) (Option.some.inj e))
theorem MS.addR (h:MS W1 n go vS vT vR gss S ts rs W) {q:Value} (ho:w2.ownsRow W1.heap.size 3 1 v2 (rs++[q]).length (rs++[q])) (hg:W.grownBy w2 vR.ownBlock) :
  MS W1 n go vS vT v2 gss S ts (rs++[q]) (w2.setCell ⟨go,2,none⟩ v2):=by
 have b2:=row_far h.r h.b (by decide) hg
 have g2:=Lib.grownBy_setCell w2 go 2 v2
 have be2:Below W1.heap.size W1 w2:=h.be.grown hg h.be.size (fun k e=>(World.ownsRow.lt h.r k e).1)
 refine⟨be2.grown g2 be2.size (fun k e=>by cases e;exact h.lo),blk_set b2 2 _,⟨row_apart (rows_apart h.s.own h.r (by decide) hg) b2 (by decide) g2,h.s.len,fun i g f h1 h2=>?_⟩,row_apart (rows_apart h.t h.r (by decide) hg) b2 (by decide) g2,row_apart ho b2 (by decide) g2,h.lo⟩
 have k2:=row_far h.r (h.s.row i g f h1 h2) (by decide) hg
 exact blk_grown k2 g2 (fun e=>blk_ne2 k2 b2 (by decide) (Option.some.inj e))
end
def RetMach (S:List (Nat→Bool)) (n:Nat) (w:World) (e:Ending) (w':World):Prop:=∃vS vT vR gss,e=.returned (.agg #[vS,vT,vR])∧(∃a n c,vT=.slice a n c)∧(∃a n c,vR=.slice a n c)∧Below w.heap.size w w'∧Bls w.heap.size w' vS n gss S
theorem mach_load {W:World} {g:Nat} {a b c:Value} (h:Blk W g 163 [a,b,c]):(loadVar 163 ⟨g,0,none⟩).run Tryz.prog W=.ok (.agg #[a,b,c]) W:=
 run_loadVar_mid W g 0 163 [a,b,c] _ (blk_range h) Tryz.underlying163 rfl (by kernel_rfl)
theorem mach_fin {w w3 W:World} {n go r:Nat} {vS vT vR:Value} {gss:List Nat} {S:List (Nat→Bool)} {ts rs:List Value} (hb:Below w.heap.size w w3) (hr:Blk w3 r 163 [.slice none 0 0,.slice none 0 0,.slice none 0 0]) (lr:w.heap.size≤r) (h:MS w3 n go vS vT vR gss S ts rs W) :
  (loadVar 163 ⟨r,0,none⟩).run Tryz.prog (set3 W r vS vT vR)=.ok (.agg #[vS,vT,vR]) (set3 W r vS vT vR)∧RetMach S n w (.returned (.agg #[vS,vT,vR])) (set3 W r vS vT vR):=by
 have r2:=blk_below hr h.be (blk_lt hr)
 have g2:=three_set W r vS vT vR
 have b2:Below w.heap.size w W:=hb.trans (h.be.mono hb.size)
 obtain⟨aT,cT,eT,_,_⟩:=own_fm h.t
 obtain⟨aR,cR,eR,_,_⟩:=own_fm h.r
 refine⟨mach_load (three_blk r2 _ _ _),vS,vT,vR,gss,rfl,⟨_,_,_,eT⟩,⟨_,_,_,eR⟩,b2.grown g2 b2.size (fun k e=>by cases e;exact lr),own_mono (row_apart h.s.own r2 (by decide) g2) hb.size,h.s.len,fun i g f h1 h2=>?_⟩
 have k1:=h.s.row i g f h1 h2
 exact blk_grown k1 g2 (fun e=>blk_ne2 k1 r2 (by decide) (Option.some.inj e))
theorem foldl_numb (n:Nat) (f:Nat→Nat→Bool) (R:List Nat) (S:List (Nat→Bool)) {j d:Nat} (hj:R[j]?=some d):(R.take (j+1)).foldl (fun Q c=>Pure.numbD n Q (f c)) S=Pure.numbD n ((R.take j).foldl (fun Q c=>Pure.numbD n Q (f c)) S) (f d):=by
 rw [List.take_add_one,hj,List.foldl_append]
 rfl
namespace Pure
theorem numbD_zero {n:Nat} {S:List (Nat→Bool)} {s:Nat→Bool} (h:cntB s n=0):numbD n S s=S:=by unfold numbD;rw [if_pos h]
theorem numbD_new {n:Nat} {S:List (Nat→Bool)} {s:Nat→Bool} (h:cntB s n≠0) (h2:plc n s S.tail 1<0):numbD n S s=S++[s]:=by unfold numbD;rw [if_neg h,if_pos h2]
theorem numbD_old {n:Nat} {S:List (Nat→Bool)} {s:Nat→Bool} (h:cntB s n≠0) (h2:¬plc n s S.tail 1<0):numbD n S s=S:=by unfold numbD;rw [if_neg h,if_neg h2]
end Pure
end Go.Proofs.YtmccnmgaoppogaaGreat
