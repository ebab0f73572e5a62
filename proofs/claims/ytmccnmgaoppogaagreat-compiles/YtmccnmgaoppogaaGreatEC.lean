/-
 The walks: places and parts. (rules)
 The walks: a place more; what leads to what. (rules)
 The walks: a place more. (rules)
-/
import Derived.Test.YtmccnmgaoppogaaGreatEB
import Derived.Deep.AppendLies
import Derived.Deep.RegionHeld3
import Derived.Great.BuildSlice
import Derived.Deep.RegionLaw
namespace Go.Proofs.YtmccnmgaoppogaaGreat
set_option maxRecDepth 100000
set_option maxHeartbeats 8000000
open Go.RowKit
structure Rk (B:Nat) (w w':World):Prop where
 lo:Below B w w'
 keep:∀(k:Nat) (cs:Array Value) (t:TypeId) (fr:Nat × Nat),w.heap[k]?=some (.cells cs t fr)→t≠184→t≠235→w'.heap[k]?=some (.cells cs t fr)
section
variable {B:Nat} {w w' w'':World}
theorem Rk.refl (B:Nat) (w:World):Rk B w w:=⟨Below.refl _ _,fun _ _ _ _ h _ _=>h⟩
theorem Rk.trans (h:Rk B w w') (h':Rk B w' w''):Rk B w w'':=⟨h.lo.trans h'.lo,fun k cs t fr hk h1 h2=>h'.keep k cs t fr (h.keep k cs t fr hk h1 h2) h1 h2⟩
theorem Rk.below (hB:B≤w.heap.size) (h:Below w.heap.size w w'):Rk B w w':=⟨h.mono hB,fun k cs t fr hk _ _=>by
 have hl:=(Array.getElem?_eq_some_iff.1 hk).1
 rw [h.block k hl]
 exact hk⟩
theorem Rk.alloc (hB:B≤w.heap.size) (o:Obj):Rk B w (w.alloc o):=.below hB (bn_ o)
theorem Rk.grown {g t0:Nat} {xs:List Value} (hb:Blk w g t0 xs) (hg:B≤g) (ht:t0=184∨t0=235) (h:w.grownBy w' (some g)):Rk B w w':=by
 refine⟨(Below.refl _ _).grown h (by have:=blk_lt hb;omega) (fun k e=>by cases e;exact hg),fun k cs t fr hk h1 h2=>?_⟩
 have hl:=(Array.getElem?_eq_some_iff.1 hk).1
 rw [h.block k hl (fun e=>by
  cases e
  unfold Blk at hb;rw [hb] at hk;cases hk;rcases ht with ht | ht
  ·exact h1 ht
  ·exact h2 ht)]
 exact hk
theorem Rk.row {size n:Nat} {v:Value} {xs:List Value} (ho:w.ownsRow B 235 size v n xs) (hB:B≤w.heap.size) (h:w.grownBy w' v.ownBlock):Rk B w w':=by
 refine⟨(Below.refl _ _).grown h hB (fun k hk=>(World.ownsRow.lt ho k hk).1),fun k cs t fr hk h1 h2=>?_⟩
 have hl:=(Array.getElem?_eq_some_iff.1 hk).1
 rw [h.block k hl (fun e=>by
  rcases ho.2 with ⟨rfl,_⟩ | ⟨g,cap,cur,rfl,_,h4,_⟩
  ·cases e
  ·cases e
   rw [h4] at hk;cases hk
   exact h2 rfl)]
 exact hk
theorem Rk.blk {g t:Nat} {xs:List Value} (h:Rk B w w') (hb:Blk w g t xs) (h1:t≠184) (h2:t≠235):Blk w' g t xs:=h.keep g _ t _ hb h1 h2
theorem Rk.nats {v:Value} {l:List Nat} (h:Rk B w w') (hn:Nats w v l):Nats w' v l:=by
 refine⟨hn.1,?_⟩
 rcases hn.2 with h0 | ⟨g,cap,cur,h1,h2,h3,h4⟩
 ·exact .inl h0
 ·exact .inr ⟨g,cap,cur,h1,h2,h.keep g _ _ _ h3 (by decide) (by decide),h4⟩
end
def plC (qs:List (Pure.Pl × Value)):List Value:=qs.flatMap (fun q=>bitsL q.1.takes++[q.2])
theorem plC_cons (q:Pure.Pl × Value) (r:List (Pure.Pl × Value)):plC (q::r)=(bitsL q.1.takes++[q.2])++plC r:=rfl
theorem plC_append (a b:List (Pure.Pl × Value)):plC (a++b)=plC a++plC b:=by simp [plC]
theorem plC_one (q:Pure.Pl × Value):(bitsL q.1.takes++[q.2]).length=257:=by rw [List.length_append,bitsL_length];rfl
theorem plC_length (qs:List (Pure.Pl × Value)):(plC qs).length=qs.length*257:=by
 induction qs with
 | nil=>rfl
 | cons q r ih=>
  rw [plC_cons,List.length_append,plC_one,ih,List.length_cons];omega
theorem plC_next {qs:List (Pure.Pl × Value)} {p:Nat} {q:Pure.Pl × Value} (h:qs[p]?=some q):(plC qs)[p*257+256]?=some q.2:=by
 induction qs generalizing p with
 | nil=>simp at h
 | cons z r ih=>
  rw [plC_cons]
  cases p with
  | zero=>
   rw [List.getElem?_cons_zero] at h;cases h;rw [Nat.zero_mul,Nat.zero_add,List.getElem?_append_left (by rw [plC_one];omega),List.getElem?_append_right (by rw [bitsL_length];omega),bitsL_length];rfl
  | succ p=>
   rw [List.getElem?_cons_succ] at h;rw [List.getElem?_append_right (by rw [plC_one];omega),plC_one,show (p+1)*257+256-257=p*257+256 by omega];exact ih h
theorem plC_take {qs:List (Pure.Pl × Value)} {p b:Nat} {q:Pure.Pl × Value} (h:qs[p]?=some q) (hb:b<256):(plC qs)[p*257+b]?=some (.bool (q.1.takes b)):=by
 induction qs generalizing p with
 | nil=>simp at h
 | cons z r ih=>
  rw [plC_cons]
  cases p with
  | zero=>
   rw [List.getElem?_cons_zero] at h;cases h;rw [Nat.zero_mul,Nat.zero_add,List.getElem?_append_left (by rw [plC_one];omega),List.getElem?_append_left (by rw [bitsL_length];exact hb)];exact bitsL_get _ hb
  | succ p=>
   rw [List.getElem?_cons_succ] at h;rw [List.getElem?_append_right (by rw [plC_one];omega),plC_one,show (p+1)*257+b-257=p*257+b by omega];exact ih h
theorem plC_set {qs:List (Pure.Pl × Value)} {p:Nat} {q:Pure.Pl × Value} (h:qs[p]?=some q) (v:Value) (nx:List Nat):(plC qs).set (p*257+256) v=plC (qs.set p ({ q.1 with next:=nx },v)):=by
 induction qs generalizing p with
 | nil=>simp at h
 | cons z r ih=>
  cases p with
  | zero=>
   rw [List.getElem?_cons_zero] at h;cases h;rw [List.set_cons_zero,plC_cons,plC_cons,Nat.zero_mul,Nat.zero_add,List.set_append_left _ _ (by rw [plC_one];omega),List.set_append_right _ _ (by rw [bitsL_length];omega),bitsL_length];rfl
  | succ p=>
   rw [List.getElem?_cons_succ] at h;rw [List.set_cons_succ,plC_cons,plC_cons,List.set_append_right _ _ (by rw [plC_one];omega),plC_one,show (p+1)*257+256-257=p*257+256 by omega,ih h]
theorem row_apart {w w':World} {base e size n g t:Nat} {v:Value} {xs ys:List Value} (h:w.ownsRow base e size v n xs) (hb:Blk w g t ys) (ht:t≠e) (hg:w.grownBy w' (some g)):w'.ownsRow base e size v n xs:=by
 refine⟨h.1,?_⟩
 rcases h.2 with h0 | ⟨g',cap,cur,h1,h2,h3,h4⟩
 ·exact .inl h0
 ·refine .inr ⟨g',cap,cur,h1,h2,?_,h4⟩
  have hl:=(Array.getElem?_eq_some_iff.1 h3).1
  rw [hg.block g' hl (fun e=>by
   cases e
   unfold Blk at hb;rw [hb] at h3;cases h3
   exact ht rfl)]
  exact h3
structure Rd (B g:Nat) (s:ByteArray) (i:Nat) (ps:List Pure.Pl) (d:Bool) (vp:Value) (qs:List (Pure.Pl × Value)) (W:World):Prop where
 rb:Rb W g s i vp d
 up:B≤g
 own:W.ownsRow B 235 257 vp qs.length (plC qs)
 ps:qs.map (·.1)=ps
 nx:∀q∈qs,Nats W q.2 q.1.next
section
variable {B g i:Nat} {s:ByteArray} {ps:List Pure.Pl} {d:Bool} {vp:Value} {qs:List (Pure.Pl × Value)} {W W':World}
theorem Rd.lt (h:Rd B g s i ps d vp qs W):B≤W.heap.size:=by have:=h.rb.lt;have:=h.up;omega
theorem Rd.len (h:Rd B g s i ps d vp qs W):qs.length=ps.length:=by rw [←h.ps,List.length_map]
theorem Rd.below (h:Rd B g s i ps d vp qs W) (hb:Below W.heap.size W W'):Rd B g s i ps d vp qs W':=
 ⟨h.rb.below hb,h.up,own_below h.own hb lr_,h.ps,fun q hq=>(h.nx q hq).below hb⟩
theorem nats_grown {v:Value} {l:List Nat} {t0:Nat} {xs:List Value} (hn:Nats W v l) (hb:Blk W g t0 xs) (ht:t0≠3) (hg:W.grownBy W' (some g)):Nats W' v l:=row_apart hn hb ht hg
theorem Rd.moved {j:Nat} {d':Bool} (h:Rd B g s i ps d vp qs W) (hg:W.grownBy W' (some g)) (hr:Rb W' g s j vp d'):Rd B g s j ps d' vp qs W':=
 ⟨hr,h.up,row_apart h.own h.rb (by decide) hg,h.ps,fun q hq=>nats_grown (h.nx q hq) h.rb (by decide) hg⟩
theorem Rd.rk (h:Rd B g s i ps d vp qs W) (hg:W.grownBy W' (some g)):Rk B W W':=.grown h.rb h.up (.inl rfl) hg
end
theorem fold_fill (c:List Value):∀(pre post:List Value),c.length≤post.length→(c.zipIdx pre.length).foldl (fun cs x=>Array.setIfInBounds cs (0+x.2) x.1) (pre++post).toArray=(pre++c++post.drop c.length).toArray:=by
 induction c with
 | nil=>intro pre post _;simp
 | cons x c ih=>
  intro pre post h
  cases post with
  | nil=>simp at h
  | cons y post=>
   have e:Array.setIfInBounds (pre++y::post).toArray (0+pre.length) x=((pre++[x])++post).toArray:=by
    rw [Nat.zero_add,List.setIfInBounds_toArray,List.set_append_right _ _ lr_,Nat.sub_self];simp
   rw [List.zipIdx_cons,List.foldl_cons,e];have:=ih (pre++[x]) post (by simpa using h);rw [List.length_append,List.length_singleton] at this;rw [this];simp
theorem fill_one (place:Nat→Option (Nat × Nat)) (c z:List Value) (hp:place 0=some (0,c.length)) (hl:c.length≤z.length):Instr.fill place z.toArray [(0,.agg c.toArray)]=some (c++z.drop c.length).toArray:=by
 have h:=fold_fill c [] z hl
 simp only [List.nil_append,List.length_nil] at h
 unfold Instr.fill
 rw [hp]
 simp only [Value.cells,List.size_toArray]
 rw [if_neg (by simp;omega)]
 unfold Instr.fill
 rw [←h]
 simp
theorem range_map (n:Nat) (f:Nat→Value):(Array.range n).map f=((List.range n).map f).toArray:=by
 apply Array.ext'
 simp [Array.toList_range]
theorem place_info:(Tryz.prog.info? 235).map (fun i=>(i.zero,i.size,i.bytes))=some (some (.agg (List.replicate 256 (Value.bool false)++[Value.slice none 0 0]).toArray),257,280):=by kernel_rfl
theorem place_built (T:Nat→Bool):Tryz.prog.built 235 [(0,.agg (bitsL T).toArray)]=some (bitsL T++[Value.slice none 0 0]).toArray:=by
 obtain⟨ip,h1,h2,h3,h4⟩:=info_parts place_info
 obtain⟨ib,b1,b2⟩:∃i,Tryz.prog.info? 233 = some i∧i.size=256:=by
  have:=bits_size
  cases h:Tryz.prog.info? 233 with
  | none=>rw [h] at this;cases this
  | some i=>rw [h] at this;exact⟨i,rfl,by simpa using this⟩
 obtain⟨il,l1,l2⟩:∃i,Tryz.prog.info? 31 = some i∧i.size=1:=by
  have:(Tryz.prog.info? 31).map (·.size)=some 1:=by kernel_rfl
  cases h:Tryz.prog.info? 31 with
  | none=>rw [h] at this;cases this
  | some i=>rw [h] at this;exact⟨i,rfl,by simpa using this⟩
 unfold Program.built
 rw [h1,Tryz.underlying235]
 simp only [h2,List.mapM_cons,List.mapM_nil,b1,l1,b2,l2,Option.map_some,Option.bind_eq_bind,Option.bind_some,Option.pure_def,Value.cells]
 have:=fill_one (fun x=>#[(0,256),(256,1)][x]?) (bitsL T) (List.replicate 256 (Value.bool false)++[Value.slice none 0 0]) (by rw [bitsL_length];rfl) (by rw [bitsL_length,List.length_append,List.length_replicate];omega)
 rw [bitsL_length,List.drop_append_of_le_length (by rw [List.length_replicate];omega),List.drop_of_length_le (by rw [List.length_replicate];omega),List.nil_append] at this
 exact this
theorem place_fill (T:Nat→Bool):Instr.fill (fun i=>some (i*257,257)) ((Array.range (1*257)).map fun x=>((Value.agg (List.replicate 256 (Value.bool false)++[Value.slice none 0 0]).toArray).cells)[x % (Value.agg (List.replicate 256 (Value.bool false)++[Value.slice none 0 0]).toArray).cells.size]!) [(0,.agg (bitsL T++[Value.slice none 0 0]).toArray)]=some (bitsL T++[Value.slice none 0 0]).toArray:=by
 rw [range_map]
 have hl:(bitsL T++[Value.slice none 0 0]).length=257:=by rw [List.length_append,bitsL_length];rfl
 have:=fill_one (fun i=>some (i*257,257)) (bitsL T++[Value.slice none 0 0]) ((List.range (1*257)).map fun x=>((Value.agg (List.replicate 256 (Value.bool false)++[Value.slice none 0 0]).toArray).cells)[x % (Value.agg (List.replicate 256 (Value.bool false)++[Value.slice none 0 0]).toArray).cells.size]!) (by rw [hl]) (by rw [hl,List.length_map,List.length_range];omega)
 rw [hl,List.drop_of_length_le (by rw [List.length_map,List.length_range];omega),List.append_nil] at this
 exact this
theorem yieldsIf_build1 {P:Program} {ops:Array Oper} {S:World→Prop} {op:Oper} {a:Act} (hw:Region.wanted op (yielded ops a.tmps)=true) (t:TypeId) (i:Nat) (x:Operand) (v:Value) (ho:op.op=.build t #[(i,x)]) (hx:a.eval x=v) (cells:Array Value) (hf:P.built t [(i,v)]=some cells):YieldsIf P ops S op (.agg cells) a:=
 .inl ⟨hw,fun w _=>by
  subst hx;have h:=run_build (P:=P) w t #[(i,a.eval x)] cells hf;unfold execOp;simp only [ho,Sem.run_bind,List.map_toArray,List.map_cons,List.map_nil];rw [h]
  rfl⟩
theorem wp_buildSlice1 {P:Program} {o:Oper} {a:Act} {w:World} {K:Act→World→Prop} {Q:Exit→Act→World→Prop} (t e:TypeId) (i:Nat) (x:Operand) (v:Value) (ho:o.op=.buildSlice t 1 #[(i,x)]) (hx:a.eval x=v)
  (cells:Array Value) (ie:TypeInfo) (z:Value) (size:Nat)
  (hu:P.underlying t=some (.slice e)) (hie:P.info? e=some ie) (hz:ie.zero=some z) (hs:ie.size=size) (hsmall:¬1*size > 2 ^ 24) (hpos:¬1*size=0)
  (hf:Instr.fill (fun i=>some (i*size,size)) ((Array.range (1*size)).map (z.cells[· % z.cells.size]!)) [(i,v)]=some cells)
  (h:K (a.put o.dst (.slice (some ⟨w.heap.size,0,none⟩) 1 1)) (w.alloc (.cells cells e))):o.wp P a w K Q:=by
 subst hx hs
 exact wp_buildSlice t e 1 #[(i,x)] ho cells ie z hu hie hz hsmall hpos (by simpa using hf) h
theorem plC_single (q:Pure.Pl × Value):plC [q]=bitsL q.1.takes++[q.2]:=by rw [plC_cons];exact List.append_nil _
theorem one_len (T:Nat→Bool):(bitsL T++[Value.slice none 0 0]).length=1*257:=by rw [List.length_append,bitsL_length];rfl
theorem one_cells (T:Nat→Bool):∀u∈bitsL T++[Value.slice none 0 0],u.oneCell'=true:=by
 intro u hu
 rcases List.mem_append.1 hu with h | h
 ·exact bitsL_one T u h
 ·simp at h
  subst h;rfl
theorem blk_ne2 {w:World} {g g' t t':Nat} {xs ys:List Value} (h:Blk w g t xs) (h':Blk w g' t' ys) (ht:t≠t'):g≠g':=by
 intro e
 subst e
 unfold Blk at h h'
 rw [h] at h'
 cases h'
 exact ht rfl
theorem row_far {W W':World} {base e size n g t:Nat} {v:Value} {xs ys:List Value} (h:W.ownsRow base e size v n xs) (hb:Blk W g t ys) (ht:t≠e) (hg:W.grownBy W' v.ownBlock):Blk W' g t ys:=by
 refine blk_grown hb hg (fun k=>?_)
 rcases h.2 with ⟨e1,_⟩ | ⟨g',cap,cur,e1,_,h4,_⟩
 ·rw [e1] at k;cases k
 ·rw [e1] at k
  cases k
  unfold Blk at hb;rw [hb] at h4;cases h4;exact ht rfl
theorem own_fm {w:World} {base e size n:Nat} {v:Value} {xs:List Value} (h:w.ownsRow base e size v n xs):∃ao cap,v=.slice ao n cap∧n≤cap∧cap≤9223372036854775807:=by
 rcases h.2 with ⟨rfl,h2⟩ | ⟨g,cap,cur,rfl,_,_,h3,h4,_⟩
 ·exact⟨none,0,by rw [h2],by omega,by omega⟩
 ·exact⟨_,cap,rfl,h3,h4⟩
theorem Rk.fresh {B g:Nat} {w w1 w2:World} (h:Rk B w w1) (hg:w1.grownBy w2 (some g)) (h1:w.heap.size≤g) (h2:B≤w.heap.size):Rk B w w2:=by
 refine⟨h.lo.grown hg (Nat.le_trans h2 h.lo.size) (fun k e=>by cases e;omega),fun k cs t fr hk a b=>?_⟩
 have hl:=(Array.getElem?_eq_some_iff.1 hk).1
 have:=h.keep k cs t fr hk a b
 rw [hg.block k (Nat.lt_of_lt_of_le hl h.lo.size) (fun e=>by cases e;omega)]
 exact this
theorem Rd.far {B g i g' t:Nat} {s:ByteArray} {ps:List Pure.Pl} {d:Bool} {vp:Value} {qs:List (Pure.Pl × Value)} {xs:List Value} {W W':World} (h:Rd B g s i ps d vp qs W) (hb:Blk W g' t xs) (h1:t≠184) (h2:t≠235) (h3:t≠3) (hg:W.grownBy W' (some g')):Rd B g s i ps d vp qs W':=
 ⟨blk_grown h.rb hg (fun e=>blk_ne2 h.rb hb (fun e=>h1 e.symm) (Option.some.inj e)),h.up,row_apart h.own hb h2 hg,h.ps,fun q hq=>nats_grown (h.nx q hq) hb h3 hg⟩
theorem part_load {W:World} {g:Nat} {a b c:Value} (h:Blk W g 83 [a,b,c]):(loadVar 83 ⟨g,0,none⟩).run Tryz.prog W=.ok (.agg #[a,b,c]) W:=
 run_loadVar_mid W g 0 83 [a,b,c] _ (blk_range h) Tryz.underlying83 rfl (by kernel_rfl)
theorem three_blk {W:World} {g t:Nat} {x y z:Value} (h:Blk W g t [x,y,z]) (a b c:Value):Blk (((W.setCell ⟨g,0,none⟩ a).setCell ⟨g,1,none⟩ b).setCell ⟨g,2,none⟩ c) g t [a,b,c]:=blk_set (blk_set (blk_set h 0 a) 1 b) 2 c
theorem three_set (W:World) (g:Nat) (a b c:Value):W.grownBy (((W.setCell ⟨g,0,none⟩ a).setCell ⟨g,1,none⟩ b).setCell ⟨g,2,none⟩ c) (some g):=
 ((Lib.grownBy_setCell W g 0 a).trans (Lib.grownBy_setCell _ g 1 b)).trans (Lib.grownBy_setCell _ g 2 c)
theorem nats_one (W:World) (n:Nat):Nats (W.alloc (.cells #[.int .i64 (n:Int)] 3)) (.slice (some ⟨W.heap.size,0,none⟩) 1 1) [n]:=
 ⟨rfl,.inr ⟨W.heap.size,1,#[.int .i64 (n:Int)],rfl,Nat.zero_le _,heap_alloc_new W _,lr_,by unfold maxLen;omega,rfl,rfl⟩⟩
def RetPt (B g:Nat) (s:ByteArray) (i:Nat) (d:Bool) (r:Pure.Pt × List Pure.Pl) (w:World) (e:Ending) (w':World):Prop:=
 ∃vf vl vp qs,e=.returned (.agg #[.bool r.1.empty,vf,vl])∧Rk B w w'∧Rd B g s i r.2 d vp qs w'∧Nats w' vf r.1.first∧Nats w' vl r.1.last
theorem one_any (B g i:Nat) (s:ByteArray) (ps:List Pure.Pl) (d:Bool) (vp:Value) (qs:List (Pure.Pl × Value)) (T:Nat→Bool) (w:World) (h:Rd B g s i ps d vp qs w) (hl:ps.length≤1000) :
  Calls Tryz.prog 169 #[.pointer (some ⟨g,0,none⟩),bitsV T] w (RetPt B g s i d (Pure.oneP T ps) w):=by
 obtain⟨ip,hp,hp0,hp1,hp2⟩:=info_parts place_info
 obtain⟨ap,cp,rfl,o1,o2⟩:=own_fm h.own
 have hq2:qs.length≤1000:=by rw [h.len];exact hl
 have BL:=h.lt
 have H0:=hide (h.below (((Below.refl w.heap.size w).alloc lr_ (.cells (bitsL T).toArray 233)).alloc (by simp) (.cells #[.bool false,.slice none 0 0,.slice none 0 0] 83)))
 have KW:Hid (Rk B w ((w.alloc (.cells (bitsL T).toArray 233)).alloc (.cells #[.bool false,.slice none 0 0,.slice none 0 0] 83))):=(Rk.alloc BL _).trans (.alloc (by simp;omega) _)
 have TB:Hid (Blk ((w.alloc (.cells (bitsL T).toArray 233)).alloc (.cells #[.bool false,.slice none 0 0,.slice none 0 0] 83)) w.heap.size 233 (bitsL T)):=blk_alloc (heap_alloc_new w _) _
 have PB:Hid (Blk ((w.alloc (.cells (bitsL T).toArray 233)).alloc (.cells #[.bool false,.slice none 0 0,.slice none 0 0] 83)) (w.heap.size+1) 83 [.bool false,.slice none 0 0,.slice none 0 0]):=by
  have z:=heap_alloc_new (w.alloc (.cells (bitsL T).toArray 233)) (.cells #[.bool false,.slice none 0 0,.slice none 0 0] 83);rw [World.size_alloc] at z;exact z
 have c2:=bc_ 2 H0.out.rb rfl
 have LN:Hid (ps.length=qs.length):=h.len.symm
 clear h
 go_enter Tryz.func169,Tryz.ntmps169
 go_wp2_with fail
 generalize (w.alloc (.cells (bitsL T).toArray 233)).alloc (.cells #[.bool false,.slice none 0 0,.slice none 0 0] 83)=W0 at *
 generalize hgt:w.heap.size=gt at *
 generalize hgp:gt+1=gp at *
 have bl0:=H0.out.lt
 have rl:=H0.out.rb.lt
 have ne1:g≠W0.heap.size:=by omega
 have ne2:W0.heap.size≠g:=by omega
 have H2:=hide (H0.out.below (((Below.refl W0.heap.size W0).alloc lr_ (.cells (bitsL T++[Value.slice none 0 0]).toArray 235)).drew))
 have K1:Hid (Rk B W0 (W0.alloc (.cells (bitsL T++[Value.slice none 0 0]).toArray 235)).drew):=.below bl0 (((Below.refl W0.heap.size W0).alloc lr_ _).drew)
 have TB2:=hide (K1.out.blk TB.out (by decide) (by decide))
 have S1:W0.drew.rangeAt gt 0 (bitsL T):=blk_range (W:=W0.drew) TB.out
 have S2:(W0.alloc (.cells (bitsL T++[Value.slice none 0 0]).toArray 235)).drew.rangeAt gt 0 (bitsL T):=blk_range TB2.out
 refine wp_region_held_drew (S:=fun w'=>w'.rangeAt gt 0 (bitsL T)) (by kernel_rfl) S1 (fun hHeld=>?_)
 refine wpAnyH_take (i:=0) (v:=?va0) rfl (by kernel_rfl) (by kernel_rfl) (by kernel_rfl) (fun _ _ _ h=>h) (Or.inl ⟨by rfl,?hya0⟩) (by assumption) ?resta0
 case hya0=>(intro w hSw;(try dsimp only at hSw);go_simp;try (with_reducible rfl))
 try simp only [Act.put,List.setIfInBounds_toArray]
 refine wpAnyH_take (i:=1) (v:=?va1) rfl (by kernel_rfl) (by kernel_rfl) (by kernel_rfl) (fun _ _ _ h=>h) (Or.inl ⟨by rfl,?hya1⟩) (by assumption) ?resta1
 case hya1=>(intro w hSw;(try dsimp only at hSw);go_simp;try (with_reducible rfl))
 try simp only [Act.put]
 refine wpAnyH_take (i:=2) (v:=?va2) rfl (by kernel_rfl) (by kernel_rfl) (by kernel_rfl) (fun _ _ _ h=>h) (Or.inl ⟨by rfl,?hya2⟩) (by assumption) ?resta2
 case hya2=>(intro w hSw;(try dsimp only at hSw);go_simp;try (with_reducible rfl))
 try simp only [Act.put]
 refine wpAnyH_take (i:=3) (v:=?va3) rfl (by kernel_rfl) (by kernel_rfl) (by kernel_rfl) (fun _ _ _ h=>h) (Or.inl ⟨by rfl,?hya3⟩) (by assumption) ?resta3
 case hya3=>(intro w hSw;(try dsimp only at hSw);go_simp;try (with_reducible rfl))
 try simp only [Act.put]
 refine wpAnyH_take (i:=5) (v:=.agg (bitsL T).toArray) rfl (by kernel_rfl) (by kernel_rfl) (by kernel_rfl) (fun _ _ _ h=>h) (yieldsIf_load_mid (by rfl) 233 (.tmp 3) rfl gt 0 rfl (bitsL T) _ (fun _ hS=>hS) Tryz.underlying233 rfl (by rw [bitsL_length];exact bits_size)) (by assumption) ?_
 try simp only [Act.put]
 refine wpAnyH_take (i:=6) (v:=.agg (bitsL T++[Value.slice none 0 0]).toArray) rfl (by kernel_rfl) (by kernel_rfl) (by kernel_rfl) (fun _ _ _ h=>h) (yieldsIf_build1 (by rfl) 235 0 (.tmp 16) (.agg (bitsL T).toArray) rfl rfl _ (place_built T)) (by assumption) ?_
 try simp only [Act.put]
 refine wpAnyH_ready (rs:=[4,7]) (by kernel_rfl) (by simp) ?_
 refine AllReadyH.cons rfl (fun K hK=>?_) (AllReadyH.cons rfl (fun K hK=>?_) AllReadyH.nil)
 ·go_simp
  refine hK.out _ _ hHeld (fun hHeld2=>?_);clear hK K
  try simp only [Act.put,List.setIfInBounds_toArray]
  refine wpAnyH_ready (rs:=[7]) (by kernel_rfl) (by simp) ?_
  refine AllReadyH.cons rfl (fun K hK=>?_) AllReadyH.nil;refine wp_buildSlice1 76 235 0 (.tmp 17) (.agg (bitsL T++[Value.slice none 0 0]).toArray) rfl rfl (bitsL T++[Value.slice none 0 0]).toArray ip _ 257 Tryz.underlying76 hp hp0 hp1 (by omega) (by omega) (place_fill T) ?_
  refine hK.out _ _ S2 (fun hHeld3=>?_);clear hK K
  try simp only [Act.put,List.setIfInBounds_toArray]
  refine wpAnyH_ready (rs:=[8]) (by kernel_rfl) (by simp) ?_
  refine AllReadyH.cons rfl (fun K hK=>?_) AllReadyH.nil;refine step_append_lies _ (by rfl) _ _ _ (by rfl) B 235 ip _ 257 280 Tryz.underlying76 hp hp0 hp1 hp2 (by rfl) (by omega) (.slice ap qs.length cp) qs.length (plC qs) (by rfl) H2.out.own ⟨W0.heap.size,0,none⟩ 1 1 (bitsL T++[Value.slice none 0 0]) (by rfl) (by rw [one_len]) (World.news_of_block (cs:=(bitsL T++[Value.slice none 0 0]).toArray) (t:=235) (fr:=(0,0)) (heap_alloc_new _ _)) (one_cells T) (by omega) (by unfold maxLen;omega) (by omega) (by simp;omega) (W0.heap.size+1) (by simp) ?_
  intro g2 cap2 w2 hown2 hgrow2 hat2 hlt2;clear hat2 hlt2;have K2:=Rk.row H2.out.own (by simp;omega) hgrow2
  have mb2:Blk w2 g 184 (rdC s i (.slice ap qs.length cp) d):=by
   have:=H2.out.rb;exact row_far H2.out.own this (by decide) hgrow2
  have tb2:=K2.blk TB2.out (by decide) (by decide);have mb3:=blk_set mb2 2 (.slice (some ⟨g2,0,none⟩) (qs.length+1) cap2);have tb3:=blk_other tb2 (blk_ne2 tb2 mb2 (by decide)) 2 (.slice (some ⟨g2,0,none⟩) (qs.length+1) cap2);refine hK.out _ _ (blk_range tb2) (fun hHeld4=>?_);have k5:=bc_ 2 mb2 rfl;have f5':=blk_frozen mb2 2;clear hK K
  try simp only [Act.put]
  refine wpAnyH_take (i:=9) (v:=?vb9) rfl (by kernel_rfl) (by kernel_rfl) (by kernel_rfl) (fun _ _ _ h=>h) (Or.inl ⟨by rfl,?hyb9⟩) (by assumption) ?restb9
  case hyb9=>(intro w hSw;(try dsimp only at hSw);go_simp;try (with_reducible rfl))
  try simp only [Act.put]
  refine wpAnyH_take (i:=10) (v:=?vb10) rfl (by kernel_rfl) (by kernel_rfl) (by kernel_rfl) (fun _ _ _ h=>h) (Or.inl ⟨by rfl,?hyb10⟩) (by assumption) ?restb10
  case hyb10=>(intro w hSw;(try dsimp only at hSw);go_simp;try (with_reducible rfl))
  try simp only [Act.put]
  refine wpAnyH_ready (rs:=[11]) (by kernel_rfl) (by simp) ?_
  refine AllReadyH.cons rfl (fun K hK=>?_) AllReadyH.nil
  go_simp
  refine hK.out _ _ (blk_range tb3) (fun hHeld5=>?_);clear hK K;refine wpAnyH_done (by kernel_rfl) ?_ _;have hg3:=Lib.grownBy_setCell w2 g 2 (.slice (some ⟨g2,0,none⟩) (qs.length+1) cap2);have K3:Hid (Rk B w (w2.setCell ⟨g,2,none⟩ (.slice (some ⟨g2,0,none⟩) (qs.length+1) cap2))):=(KW.out.trans (K1.out.trans K2)).trans (.grown mb2 H0.out.up (.inl rfl) hg3)
  have R3:Hid (Rd B g s i (Pure.oneP T ps).2 d (.slice (some ⟨g2,0,none⟩) (qs.length+1) cap2) (qs++[(⟨T,[]⟩,.slice none 0 0)]) (w2.setCell ⟨g,2,none⟩ (.slice (some ⟨g2,0,none⟩) (qs.length+1) cap2))):=by
   refine⟨mb3,H0.out.up,?_,?_,fun q hq=>?_⟩
   ·have:=row_apart hown2 mb2 (by decide) hg3
    rw [plC_append,plC_single,List.length_append];exact this
   ·rw [List.map_append,H0.out.ps]
    rfl
   ·rcases List.mem_append.1 hq with h | h
    ·exact ((K1.out.trans K2).trans (.grown mb2 H0.out.up (.inl rfl) hg3)).nats (H0.out.nx q h)
    ·simp at h
     subst h;exact Nats.nil _
  have PB3:Hid (Blk (w2.setCell ⟨g,2,none⟩ (.slice (some ⟨g2,0,none⟩) (qs.length+1) cap2)) gp 83 [.bool false,.slice none 0 0,.slice none 0 0]):=(K1.out.trans (K2.trans (.grown mb2 H0.out.up (.inl rfl) hg3))).blk PB.out (by decide) (by decide);clear hHeld4 hHeld5 mb2 mb3 tb2 tb3 k5 f5' hown2 hgrow2 K2 hg3 H2 TB2;generalize w2.setCell ⟨g,2,none⟩ (.slice (some ⟨g2,0,none⟩) (qs.length+1) cap2)=W4 at *;have gpl:=blk_lt PB3.out;have p0:=bc_ 0 PB3.out rfl;have p1:=bc_ 1 PB3.out rfl;have p2:=bc_ 2 PB3.out rfl;have f0:=blk_frozen PB3.out 0;have f1:=blk_frozen PB3.out 1;have f2:=blk_frozen PB3.out 2;have n1:gp≠W4.heap.size:=by omega
  have n2:W4.heap.size≠gp:=by omega
  have n3:gp≠W4.heap.size+1:=by omega
  have n4:W4.heap.size+1≠gp:=by omega
  go_wp2;have g5:=three_set W4 gp (.bool false) (.slice (some ⟨W4.heap.size,0,none⟩) 1 1) (.slice (some ⟨W4.heap.size+1,0,none⟩) 1 1);have pb5:=three_blk PB3.out (.bool false) (.slice (some ⟨W4.heap.size,0,none⟩) 1 1) (.slice (some ⟨W4.heap.size+1,0,none⟩) 1 1);have R5:=R3.out.far PB3.out (by decide) (by decide) (by decide) g5;have sz:(((W4.setCell ⟨gp,0,none⟩ (.bool false)).setCell ⟨gp,1,none⟩ (.slice (some ⟨W4.heap.size,0,none⟩) 1 1)).setCell ⟨gp,2,none⟩ (.slice (some ⟨W4.heap.size+1,0,none⟩) 1 1)).heap.size=W4.heap.size:=by simp [World.setCell]
  have K5:=K3.out.fresh g5 (by rw [hgt];omega) (by rw [hgt];omega);generalize ((W4.setCell ⟨gp,0,none⟩ (.bool false)).setCell ⟨gp,1,none⟩ (.slice (some ⟨W4.heap.size,0,none⟩) 1 1)).setCell ⟨gp,2,none⟩ (.slice (some ⟨W4.heap.size+1,0,none⟩) 1 1)=W5 at *;have b5:=((Below.refl W5.heap.size W5).alloc lr_ (.cells #[.int .i64 (qs.length:Int)] 3)).alloc (by simp) (.cells #[.int .i64 (qs.length:Int)] 3);have na:=(nats_one W5 qs.length).below (bn_ (.cells #[.int .i64 (qs.length:Int)] 3));have nb:=nats_one (W5.alloc (.cells #[.int .i64 (qs.length:Int)] 3)) qs.length;rw [World.size_alloc] at nb;rw [sz] at na nb;have ld:=part_load (blk_below pb5 b5 (blk_lt pb5));refine bodyPost_ret (v:=.agg #[.bool false,.slice (some ⟨W4.heap.size,0,none⟩) 1 1,.slice (some ⟨W4.heap.size+1,0,none⟩) 1 1]) (by simp [results,Tryz.results169,asAddr,ld]) rfl ?_
  refine⟨_,_,_,_,rfl,K5.trans (.below R5.lt b5),R5.below b5,?_,?_⟩
  ·show Nats _ _ [ps.length]
   rw [LN.out];exact na
  ·show Nats _ _ [ps.length]
   rw [LN.out];exact nb
 ·have c2':=blk_cell (j:=2) H2.out.rb rfl
  refine wp_buildSlice1 76 235 0 (.tmp 17) (.agg (bitsL T++[Value.slice none 0 0]).toArray) rfl rfl (bitsL T++[Value.slice none 0 0]).toArray ip _ 257 Tryz.underlying76 hp hp0 hp1 (by omega) (by omega) (place_fill T) ?_
  refine hK.out _ _ S2 (fun hHeld2=>?_);clear hK K
  try simp only [Act.put]
  refine wpAnyH_ready (rs:=[4]) (by kernel_rfl) (by simp) ?_
  refine AllReadyH.cons rfl (fun K hK=>?_) AllReadyH.nil
  go_simp
  refine hK.out _ _ S2 (fun hHeld3=>?_);clear hK K
  try simp only [Act.put,List.setIfInBounds_toArray]
  refine wpAnyH_ready (rs:=[8]) (by kernel_rfl) (by simp) ?_
  refine AllReadyH.cons rfl (fun K hK=>?_) AllReadyH.nil;refine step_append_lies _ (by rfl) _ _ _ (by rfl) B 235 ip _ 257 280 Tryz.underlying76 hp hp0 hp1 hp2 (by rfl) (by omega) (.slice ap qs.length cp) qs.length (plC qs) (by rfl) H2.out.own ⟨W0.heap.size,0,none⟩ 1 1 (bitsL T++[Value.slice none 0 0]) (by rfl) (by rw [one_len]) (World.news_of_block (cs:=(bitsL T++[Value.slice none 0 0]).toArray) (t:=235) (fr:=(0,0)) (heap_alloc_new _ _)) (one_cells T) (by omega) (by unfold maxLen;omega) (by omega) (by simp;omega) (W0.heap.size+1) (by simp) ?_
  intro g2 cap2 w2 hown2 hgrow2 hat2 hlt2;clear hat2 hlt2;have K2:=Rk.row H2.out.own (by simp;omega) hgrow2
  have mb2:Blk w2 g 184 (rdC s i (.slice ap qs.length cp) d):=by
   have:=H2.out.rb;exact row_far H2.out.own this (by decide) hgrow2
  have tb2:=K2.blk TB2.out (by decide) (by decide);have mb3:=blk_set mb2 2 (.slice (some ⟨g2,0,none⟩) (qs.length+1) cap2);have tb3:=blk_other tb2 (blk_ne2 tb2 mb2 (by decide)) 2 (.slice (some ⟨g2,0,none⟩) (qs.length+1) cap2);refine hK.out _ _ (blk_range tb2) (fun hHeld4=>?_);have k5:=bc_ 2 mb2 rfl;have f5':=blk_frozen mb2 2;clear hK K
  try simp only [Act.put,List.setIfInBounds_toArray]
  refine wpAnyH_take (i:=9) (v:=?vc9) rfl (by kernel_rfl) (by kernel_rfl) (by kernel_rfl) (fun _ _ _ h=>h) (Or.inl ⟨by rfl,?hyc9⟩) (by assumption) ?restc9
  case hyc9=>(intro w hSw;(try dsimp only at hSw);go_simp;try (with_reducible rfl))
  try simp only [Act.put]
  refine wpAnyH_take (i:=10) (v:=?vc10) rfl (by kernel_rfl) (by kernel_rfl) (by kernel_rfl) (fun _ _ _ h=>h) (Or.inl ⟨by rfl,?hyc10⟩) (by assumption) ?restc10
  case hyc10=>(intro w hSw;(try dsimp only at hSw);go_simp;try (with_reducible rfl))
  try simp only [Act.put]
  refine wpAnyH_ready (rs:=[11]) (by kernel_rfl) (by simp) ?_
  refine AllReadyH.cons rfl (fun K hK=>?_) AllReadyH.nil
  go_simp
  refine hK.out _ _ (blk_range tb3) (fun hHeld5=>?_);clear hK K;refine wpAnyH_done (by kernel_rfl) ?_ _;have hg3:=Lib.grownBy_setCell w2 g 2 (.slice (some ⟨g2,0,none⟩) (qs.length+1) cap2);have K3:Hid (Rk B w (w2.setCell ⟨g,2,none⟩ (.slice (some ⟨g2,0,none⟩) (qs.length+1) cap2))):=(KW.out.trans (K1.out.trans K2)).trans (.grown mb2 H0.out.up (.inl rfl) hg3)
  have R3:Hid (Rd B g s i (Pure.oneP T ps).2 d (.slice (some ⟨g2,0,none⟩) (qs.length+1) cap2) (qs++[(⟨T,[]⟩,.slice none 0 0)]) (w2.setCell ⟨g,2,none⟩ (.slice (some ⟨g2,0,none⟩) (qs.length+1) cap2))):=by
   refine⟨mb3,H0.out.up,?_,?_,fun q hq=>?_⟩
   ·have:=row_apart hown2 mb2 (by decide) hg3
    rw [plC_append,plC_single,List.length_append];exact this
   ·rw [List.map_append,H0.out.ps]
    rfl
   ·rcases List.mem_append.1 hq with h | h
    ·exact ((K1.out.trans K2).trans (.grown mb2 H0.out.up (.inl rfl) hg3)).nats (H0.out.nx q h)
    ·simp at h
     subst h;exact Nats.nil _
  have PB3:Hid (Blk (w2.setCell ⟨g,2,none⟩ (.slice (some ⟨g2,0,none⟩) (qs.length+1) cap2)) gp 83 [.bool false,.slice none 0 0,.slice none 0 0]):=(K1.out.trans (K2.trans (.grown mb2 H0.out.up (.inl rfl) hg3))).blk PB.out (by decide) (by decide);clear hHeld4 hHeld5 mb2 mb3 tb2 tb3 k5 f5' hown2 hgrow2 K2 hg3 H2 TB2;generalize w2.setCell ⟨g,2,none⟩ (.slice (some ⟨g2,0,none⟩) (qs.length+1) cap2)=W4 at *;have gpl:=blk_lt PB3.out;have p0:=bc_ 0 PB3.out rfl;have p1:=bc_ 1 PB3.out rfl;have p2:=bc_ 2 PB3.out rfl;have f0:=blk_frozen PB3.out 0;have f1:=blk_frozen PB3.out 1;have f2:=blk_frozen PB3.out 2;have n1:gp≠W4.heap.size:=by omega
  have n2:W4.heap.size≠gp:=by omega
  have n3:gp≠W4.heap.size+1:=by omega
  have n4:W4.heap.size+1≠gp:=by omega
  go_wp2;have g5:=three_set W4 gp (.bool false) (.slice (some ⟨W4.heap.size,0,none⟩) 1 1) (.slice (some ⟨W4.heap.size+1,0,none⟩) 1 1);have pb5:=three_blk PB3.out (.bool false) (.slice (some ⟨W4.heap.size,0,none⟩) 1 1) (.slice (some ⟨W4.heap.size+1,0,none⟩) 1 1);have R5:=R3.out.far PB3.out (by decide) (by decide) (by decide) g5;have sz:(((W4.setCell ⟨gp,0,none⟩ (.bool false)).setCell ⟨gp,1,none⟩ (.slice (some ⟨W4.heap.size,0,none⟩) 1 1)).setCell ⟨gp,2,none⟩ (.slice (some ⟨W4.heap.size+1,0,none⟩) 1 1)).heap.size=W4.heap.size:=by simp [World.setCell]
  have K5:=K3.out.fresh g5 (by rw [hgt];omega) (by rw [hgt];omega);generalize ((W4.setCell ⟨gp,0,none⟩ (.bool false)).setCell ⟨gp,1,none⟩ (.slice (some ⟨W4.heap.size,0,none⟩) 1 1)).setCell ⟨gp,2,none⟩ (.slice (some ⟨W4.heap.size+1,0,none⟩) 1 1)=W5 at *;have b5:=((Below.refl W5.heap.size W5).alloc lr_ (.cells #[.int .i64 (qs.length:Int)] 3)).alloc (by simp) (.cells #[.int .i64 (qs.length:Int)] 3);have na:=(nats_one W5 qs.length).below (bn_ (.cells #[.int .i64 (qs.length:Int)] 3));have nb:=nats_one (W5.alloc (.cells #[.int .i64 (qs.length:Int)] 3)) qs.length;rw [World.size_alloc] at nb;rw [sz] at na nb;have ld:=part_load (blk_below pb5 b5 (blk_lt pb5));refine bodyPost_ret (v:=.agg #[.bool false,.slice (some ⟨W4.heap.size,0,none⟩) 1 1,.slice (some ⟨W4.heap.size+1,0,none⟩) 1 1]) (by simp [results,Tryz.results169,asAddr,ld]) rfl ?_
  refine⟨_,_,_,_,rfl,K5.trans (.below R5.lt b5),R5.below b5,?_,?_⟩
  ·show Nats _ _ [ps.length]
   rw [LN.out];exact na
  ·show Nats _ _ [ps.length]
   rw [LN.out];exact nb
end Go.Proofs.YtmccnmgaoppogaaGreat
