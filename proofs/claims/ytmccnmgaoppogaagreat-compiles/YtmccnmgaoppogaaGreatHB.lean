/-
 The walks: the document's reader: nodes, signs. (weirref)
 The walks: a node more. (weirref)
 The walks: the document's classes. (weirref)
-/
import Derived.Test.YtmccnmgaoppogaaGreatH4
import Derived.Test.YtmccnmgaoppogaaGreatH1
namespace Go.Proofs.YtmccnmgaoppogaaGreat
set_option maxRecDepth 100000
set_option maxHeartbeats 8000000
open Go.RowKit
def ndC1 (x:Pure.Nd):List Value:=.int .i64 (x.kind:Int)::.int .i64 (x.l:Int)::.int .i64 (x.r:Int)::bitsL x.inn
def ndC (ns:List Pure.Nd):List Value:=ns.flatMap ndC1
theorem ndC1_length (x:Pure.Nd):(ndC1 x).length=259:=by
 show (bitsL x.inn).length+1+1+1=259
 rw [bitsL_length]
theorem ndC_cons (x:Pure.Nd) (r:List Pure.Nd):ndC (x::r)=ndC1 x++ndC r:=rfl
theorem ndC_append (a b:List Pure.Nd):ndC (a++b)=ndC a++ndC b:=by simp [ndC]
theorem ndC_one (x:Pure.Nd):ndC [x]=ndC1 x:=by rw [ndC_cons];exact List.append_nil _
theorem ndC_get {ns:List Pure.Nd} {p j:Nat} {x:Pure.Nd} (hp:ns[p]?=some x) (hj:j<259):(ndC ns)[p*259+j]?=(ndC1 x)[j]?:=by
 induction ns generalizing p with
 | nil=>simp at hp
 | cons z r ih=>
  rw [ndC_cons];have hz:=ndC1_length z
  cases p with
  | zero=>
   rw [List.getElem?_cons_zero] at hp;cases hp;rw [Nat.zero_mul,Nat.zero_add,List.getElem?_append_left (by omega)]
  | succ p=>
   rw [List.getElem?_cons_succ] at hp;rw [List.getElem?_append_right (by omega),hz,show (p+1)*259+j-259=p*259+j by omega];exact ih hp
theorem ndC1_ones (x:Pure.Nd):∀u∈ndC1 x,u.oneCell'=true:=by
 intro u hu
 unfold ndC1 at hu
 rcases List.mem_cons.1 hu with rfl | hu
 ·rfl
 ·rcases List.mem_cons.1 hu with rfl | hu
  ·rfl
  ·rcases List.mem_cons.1 hu with rfl | hu
   ·rfl
   ·exact bitsL_one _ u hu
def ndZ:List Value:=ndC1 ⟨0,0,0,Pure.noneB⟩
theorem node_info0:(Tryz.prog.info? 161).map (fun i=>(i.zero,i.size,i.bytes))=some (some (.agg (.int .i64 0::.int .i64 0::.int .i64 0::List.replicate 256 (Value.bool false)).toArray),259,280):=by kernel_rfl
theorem node_info:(Tryz.prog.info? 161).map (fun i=>(i.zero,i.size,i.bytes))=some (some (.agg ndZ.toArray),259,280):=by
 rw [node_info0]
 unfold ndZ ndC1
 rw [bits_zero]
 rfl
theorem node_zeroV (w:World):(zeroValue 161).run Tryz.prog w=.ok (.agg ndZ.toArray) w:=by
 obtain⟨i,h1,h2,_⟩:=info_parts node_info
 simp [zeroValue,typeInfo,go_sem,h1,h2]
theorem node_size:(Tryz.prog.info? 161).map (·.size)=some 259:=by
 obtain⟨i,h1,_,h3,_⟩:=info_parts node_info
 rw [h1,Option.map_some,h3]
theorem ndZ_length:ndZ.length=259:=ndC1_length _
def rlC (modes:Int) (vn vl:Value) (down:Int) (s:ByteArray) (i:Nat):List Value:=[.int .i64 modes,vn,vl,.int .i64 down,.string s,.int .i64 i]
def Db (W:World) (g:Nat) (s:ByteArray) (i:Nat) (vn vl:Value) (modes down:Int):Prop:=Blk W g 99 (rlC modes vn vl down s i)
section
variable {W W':World} {g i:Nat} {s:ByteArray} {vn vl:Value} {modes down:Int}
theorem Db.below (h:Db W g s i vn vl modes down) (hb:Below W.heap.size W W'):Db W' g s i vn vl modes down:=blk_below h hb (blk_lt h)
theorem Db.at (h:Db W g s i vn vl modes down) (j:Nat):Db (W.setCell ⟨g,5,none⟩ (.int .i64 (j:Int))) g s j vn vl modes down:=blk_set h 5 _
theorem Db.dn (h:Db W g s i vn vl modes down) (x:Int):Db (W.setCell ⟨g,3,none⟩ (.int .i64 x)) g s i vn vl modes x:=blk_set h 3 _
theorem Db.nodes (h:Db W g s i vn vl modes down) (x:Value):Db (W.setCell ⟨g,1,none⟩ x) g s i x vl modes down:=blk_set h 1 _
theorem Db.mode (h:Db W g s i vn vl modes down) (x:Int):Db (W.setCell ⟨g,0,none⟩ (.int .i64 x)) g s i vn vl x down:=blk_set h 0 _
theorem Db.lines (h:Db W g s i vn vl modes down) (x:Value):Db (W.setCell ⟨g,2,none⟩ x) g s i vn x modes down:=blk_set h 2 _
end
structure Dr (B g:Nat) (s:ByteArray) (i:Nat) (ns:List Pure.Nd) (vn vl:Value) (modes down:Int) (W:World):Prop where
 rb:Db W g s i vn vl modes down
 up:B≤g
 own:W.ownsRow B 161 259 vn ns.length (ndC ns)
structure Dk (B:Nat) (w w':World):Prop where
 lo:Below B w w'
 keep:∀(k:Nat) (cs:Array Value) (t:TypeId) (fr:Nat × Nat),w.heap[k]?=some (.cells cs t fr)→t≠99→t≠161→w'.heap[k]?=some (.cells cs t fr)
section
variable {B:Nat} {w w' w'':World}
theorem Dk.refl (B:Nat) (w:World):Dk B w w:=⟨Below.refl _ _,fun _ _ _ _ h _ _=>h⟩
theorem Dk.trans (h:Dk B w w') (h':Dk B w' w''):Dk B w w'':=⟨h.lo.trans h'.lo,fun k cs t fr hk h1 h2=>h'.keep k cs t fr (h.keep k cs t fr hk h1 h2) h1 h2⟩
theorem Dk.below (hB:B≤w.heap.size) (h:Below w.heap.size w w'):Dk B w w':=⟨h.mono hB,fun k cs t fr hk _ _=>by
 have hl:=(Array.getElem?_eq_some_iff.1 hk).1
 rw [h.block k hl]
 exact hk⟩
theorem Dk.grown {g t0:Nat} {xs:List Value} (hb:Blk w g t0 xs) (hg:B≤g) (ht:t0=99∨t0=161) (h:w.grownBy w' (some g)):Dk B w w':=by
 refine⟨(Below.refl _ _).grown h (by have:=blk_lt hb;omega) (fun k e=>by cases e;exact hg),fun k cs t fr hk h1 h2=>?_⟩
 have hl:=(Array.getElem?_eq_some_iff.1 hk).1
 rw [h.block k hl (fun e=>by
  cases e
  unfold Blk at hb;rw [hb] at hk;cases hk;rcases ht with ht | ht
  ·exact h1 ht
  ·exact h2 ht)]
 exact hk
theorem Dk.row {size n:Nat} {v:Value} {xs:List Value} (ho:w.ownsRow B 161 size v n xs) (hB:B≤w.heap.size) (h:w.grownBy w' v.ownBlock):Dk B w w':=by
 refine⟨(Below.refl _ _).grown h hB (fun k hk=>(World.ownsRow.lt ho k hk).1),fun k cs t fr hk h1 h2=>?_⟩
 have hl:=(Array.getElem?_eq_some_iff.1 hk).1
 rw [h.block k hl (fun e=>by
  rcases ho.2 with ⟨rfl,_⟩ | ⟨g,cap,cur,rfl,_,h4,_⟩
  ·cases e
  ·cases e
   rw [h4] at hk;cases hk
   exact h2 rfl)]
 exact hk
theorem Dk.blk {g t:Nat} {xs:List Value} (h:Dk B w w') (hb:Blk w g t xs) (h1:t≠99) (h2:t≠161):Blk w' g t xs:=h.keep g _ t _ hb h1 h2
theorem Dk.rows {B' t size n:Nat} {v:Value} {xs:List Value} (h:Dk B w w') (hn:w.ownsRow B' t size v n xs) (h1:t≠99) (h2:t≠161):w'.ownsRow B' t size v n xs:=by
 refine⟨hn.1,?_⟩
 rcases hn.2 with h0 | ⟨g,cap,cur,h3,h4,h5,h6⟩
 ·exact .inl h0
 ·exact .inr ⟨g,cap,cur,h3,h4,h.keep g _ _ _ h5 h1 h2,h6⟩
end
section
variable {B g i j:Nat} {s:ByteArray} {ns:List Pure.Nd} {vn vl:Value} {modes down modes' down':Int} {W W':World}
theorem Dr.lt (h:Dr B g s i ns vn vl modes down W):B≤W.heap.size:=by have:=h.up;have:=blk_lt h.rb;omega
theorem Dr.below (h:Dr B g s i ns vn vl modes down W) (hb:Below W.heap.size W W'):Dr B g s i ns vn vl modes down W':=⟨h.rb.below hb,h.up,own_below h.own hb lr_⟩
theorem Dr.moved (h:Dr B g s i ns vn vl modes down W) (hg:W.grownBy W' (some g)) (hr:Db W' g s j vn vl modes' down'):Dr B g s j ns vn vl modes' down' W':=⟨hr,h.up,row_apart h.own h.rb (by decide) hg⟩
theorem Dr.dk (h:Dr B g s i ns vn vl modes down W) (hg:W.grownBy W' (some g)):Dk B W W':=.grown h.rb h.up (.inl rfl) hg
end
def RetDb (v:Value) (g:Nat) (s:ByteArray) (j:Nat) (vn vl:Value) (modes down:Int) (w:World) (e:Ending) (w':World):Prop:=
 e=.returned v∧w.grownBy w' (some g)∧Db w' g s j vn vl modes down
theorem signed_pl (g i:Nat) (s:ByteArray) (vn vl:Value) (modes down:Int) (w:World) (h:Db w g s i vn vl modes down) (hs:s.size≤1000) (i1:i<s.size) (h2:Pure.pkb s i≠92) :
  Calls Tryz.prog 158 #[.pointer (some ⟨g,0,none⟩)] w (RetDb (.int .i64 (Pure.pkb s i)) g s (i+1) vn vl modes down w):=by
 have c4:=bc_ 4 h rfl
 have c5:=bc_ 5 h rfl
 have f5:=blk_frozen h 5
 have H0:=hide h
 clear h
 have x0:=fun w=>idx_str s (i:Int) i rfl (by omega) w
 have j0:=nz_ i
 have j1:(i:Int)<(s.size:Int):=by omega
 have wi:=wr_ (i:Int) (by omega) (by omega)
 rw [Pure.pkb_bt i1] at h2 ⊢
 have bd:=bt_bd s i
 generalize bt s i=b at *
 have e1:(b != 92)=true:=by simpa using h2
 clear h2
 go_enter Tryz.func158,Tryz.ntmps158
 go_wp2_with fail
 go_quiet (fail)
 have dn:=below_drewN (Below.refl w.heap.size w) nq
 have H1:=hide (H0.out.below dn)
 have G1:=hide (grown_bel (some g) dn)
 clear dn c4 c5 f5 H0
 generalize w.drewN nq=W1 at *
 have c5:=bc_ 5 H1.out rfl
 have f5:=blk_frozen H1.out 5
 have N1:=hide (H1.out.at (i+1))
 go_wp2
 go_ret
 exact⟨rfl,G1.out.trans (Lib.grownBy_setCell _ g 5 _),N1.out⟩
theorem signed_any (g i j:Nat) (s:ByteArray) (vn vl:Value) (modes down v:Int) (w:World) (h:Db w g s i vn vl modes down) (hs:s.size≤1000) (hv:Pure.Sg s i j v) :
  Calls Tryz.prog 158 #[.pointer (some ⟨g,0,none⟩)] w (RetDb (.int .i64 v) g s j vn vl modes down w):=by
 have c4:=bc_ 4 h rfl
 have c5:=bc_ 5 h rfl
 have f5:=blk_frozen h 5
 have H0:=hide h
 clear h
 have i1:i<s.size:=by have:=hv.lt;have:=hv.le;omega
 have x0:=fun w=>idx_str s (i:Int) i rfl (by omega) w
 have j0:=nz_ i
 have j1:(i:Int)<(s.size:Int):=by omega
 have wi:=wr_ (i:Int) (by omega) (by omega)
 cases hv with
 | plain h1 h2=>exact signed_pl g i s vn vl modes down w H0.out hs i1 h2
 | esc h1 h2=>
  have i2:i+1<s.size:=Pure.pkb_lt (h2.ok.ne);rw [Pure.pkb_bt i1] at h1;rw [Pure.pkb_bt i2] at h2;rw [h1] at x0;have x1:∀w,(Instr.index 9 (.string s) (.int .i64 ((i:Int)+1))).run Tryz.prog w=.ok (.int .u8 (bt s (i+1))) w:=fun w=>idx_str s ((i:Int)+1) (i+1) (by omega) i2 w
  have k0:(0:Int)≤(i:Int)+1:=by omega
  have k1:(i:Int)+1<(s.size:Int):=by omega
  have wi2:IntKind.i64.wrap ((i:Int)+1+1)=(i:Int)+1+1:=wrap_in _ (by omega) (by omega);have bd:=bt_bd s (i+1);generalize bt s (i+1)=b at *;clear h1;unfold Pure.Esc at h2;rcases h2 with ⟨hb,hv⟩ | ⟨hb,hv⟩ | ⟨hb,hv⟩
  ·subst hv
   have e1:(v == 110)=false:=by simp;omega
   have e2:(v == 115)=false:=by simp;omega
   clear hb;go_enter Tryz.func158,Tryz.ntmps158
   go_wp2_with fail
   go_quiet (fail);have dn:=below_drewN (Below.refl w.heap.size w) nq;have H1:=hide (H0.out.below dn);have G1:=hide (grown_bel (some g) dn);clear dn c4 c5 f5 H0;generalize w.drewN nq=W1 at *;have c5:=bc_ 5 H1.out rfl;have f5:=blk_frozen H1.out 5;have H2:Hid (Db (W1.setCell ⟨g,5,none⟩ (.int .i64 ((i:Int)+1))) g s (i+1) vn vl modes down):=H1.out.at (i+1);have G2:=hide (G1.out.trans (Lib.grownBy_setCell W1 g 5 (.int .i64 ((i:Int)+1))));go_upto_region 5 with (fail);clear c5 f5 H1 G1;generalize W1.setCell ⟨g,5,none⟩ (.int .i64 ((i:Int)+1))=W2 at *;have c4:=bc_ 4 H2.out rfl;have c5:W2.cell? ⟨g,5,none⟩=some (.int .i64 ((i:Int)+1)):=blk_cell (j:=5) H2.out rfl
   go_wp2_with fail
   go_quiet (fail);have dn:=below_drewN (Below.refl W2.heap.size W2) nq;have H3:=hide (H2.out.below dn);have G3:=hide (G2.out.trans (grown_bel (some g) dn));clear dn c4 c5 H2 G2;generalize W2.drewN nq=W3 at *;have c5:W3.cell? ⟨g,5,none⟩=some (.int .i64 ((i:Int)+1)):=blk_cell (j:=5) H3.out rfl;have f5:=blk_frozen H3.out 5;have N1:Hid (Db (W3.setCell ⟨g,5,none⟩ (.int .i64 ((i:Int)+1+1))) g s (i+2) vn vl modes down):=H3.out.at (i+2);go_wp2;go_ret;exact⟨rfl,G3.out.trans (Lib.grownBy_setCell _ g 5 _),N1.out⟩
  ·subst hb hv
   go_enter Tryz.func158,Tryz.ntmps158
   go_wp2_with fail
   go_quiet (fail);have dn:=below_drewN (Below.refl w.heap.size w) nq;have H1:=hide (H0.out.below dn);have G1:=hide (grown_bel (some g) dn);clear dn c4 c5 f5 H0;generalize w.drewN nq=W1 at *;have c5:=bc_ 5 H1.out rfl;have f5:=blk_frozen H1.out 5;have H2:Hid (Db (W1.setCell ⟨g,5,none⟩ (.int .i64 ((i:Int)+1))) g s (i+1) vn vl modes down):=H1.out.at (i+1);have G2:=hide (G1.out.trans (Lib.grownBy_setCell W1 g 5 (.int .i64 ((i:Int)+1))));go_upto_region 5 with (fail);clear c5 f5 H1 G1;generalize W1.setCell ⟨g,5,none⟩ (.int .i64 ((i:Int)+1))=W2 at *;have c4:=bc_ 4 H2.out rfl;have c5:W2.cell? ⟨g,5,none⟩=some (.int .i64 ((i:Int)+1)):=blk_cell (j:=5) H2.out rfl
   go_wp2_with fail
   go_quiet (fail);have dn:=below_drewN (Below.refl W2.heap.size W2) nq;have H3:=hide (H2.out.below dn);have G3:=hide (G2.out.trans (grown_bel (some g) dn));clear dn c4 c5 H2 G2;generalize W2.drewN nq=W3 at *;have c5:W3.cell? ⟨g,5,none⟩=some (.int .i64 ((i:Int)+1)):=blk_cell (j:=5) H3.out rfl;have f5:=blk_frozen H3.out 5;have N1:Hid (Db (W3.setCell ⟨g,5,none⟩ (.int .i64 ((i:Int)+1+1))) g s (i+2) vn vl modes down):=H3.out.at (i+2);go_wp2;go_ret;exact⟨rfl,G3.out.trans (Lib.grownBy_setCell _ g 5 _),N1.out⟩
  ·subst hb hv
   go_enter Tryz.func158,Tryz.ntmps158
   go_wp2_with fail
   go_quiet (fail);have dn:=below_drewN (Below.refl w.heap.size w) nq;have H1:=hide (H0.out.below dn);have G1:=hide (grown_bel (some g) dn);clear dn c4 c5 f5 H0;generalize w.drewN nq=W1 at *;have c5:=bc_ 5 H1.out rfl;have f5:=blk_frozen H1.out 5;have H2:Hid (Db (W1.setCell ⟨g,5,none⟩ (.int .i64 ((i:Int)+1))) g s (i+1) vn vl modes down):=H1.out.at (i+1);have G2:=hide (G1.out.trans (Lib.grownBy_setCell W1 g 5 (.int .i64 ((i:Int)+1))));go_upto_region 5 with (fail);clear c5 f5 H1 G1;generalize W1.setCell ⟨g,5,none⟩ (.int .i64 ((i:Int)+1))=W2 at *;have c4:=bc_ 4 H2.out rfl;have c5:W2.cell? ⟨g,5,none⟩=some (.int .i64 ((i:Int)+1)):=blk_cell (j:=5) H2.out rfl
   go_wp2_with fail
   go_quiet (fail);have dn:=below_drewN (Below.refl W2.heap.size W2) nq;have H3:=hide (H2.out.below dn);have G3:=hide (G2.out.trans (grown_bel (some g) dn));clear dn c4 c5 H2 G2;generalize W2.drewN nq=W3 at *;have c5:W3.cell? ⟨g,5,none⟩=some (.int .i64 ((i:Int)+1)):=blk_cell (j:=5) H3.out rfl;have f5:=blk_frozen H3.out 5;have N1:Hid (Db (W3.setCell ⟨g,5,none⟩ (.int .i64 ((i:Int)+1+1))) g s (i+2) vn vl modes down):=H3.out.at (i+2);go_wp2;go_ret;exact⟨rfl,G3.out.trans (Lib.grownBy_setCell _ g 5 _),N1.out⟩
theorem node_fill (x:Pure.Nd):Instr.fill (fun i=>some (i*259,259)) ((Array.range (1*259)).map fun j=>((Value.agg ndZ.toArray).cells)[j % (Value.agg ndZ.toArray).cells.size]!) [(0,.agg (ndC1 x).toArray)]=some (ndC1 x).toArray:=by
 rw [range_map]
 have hl:=ndC1_length x
 have:=fill_one (fun i=>some (i*259,259)) (ndC1 x) ((List.range (1*259)).map fun j=>((Value.agg ndZ.toArray).cells)[j % (Value.agg ndZ.toArray).cells.size]!) (by rw [hl]) (by rw [hl,List.length_map,List.length_range];omega)
 rw [hl,List.drop_of_length_le (by rw [List.length_map,List.length_range];omega),List.append_nil] at this
 exact this
def RetNd (B g:Nat) (s:ByteArray) (i:Nat) (n:Nat) (ns:List Pure.Nd) (vl:Value) (modes down:Int) (w:World) (e:Ending) (w':World):Prop:=
 e=.returned (.int .i64 (n:Int))∧Dk B w w'∧∃vn,Dr B g s i ns vn vl modes down w'
theorem node_any (B g i:Nat) (s:ByteArray) (ns:List Pure.Nd) (vn vl:Value) (modes down:Int) (x:Pure.Nd) (w:World) (h:Dr B g s i ns vn vl modes down w) (hl:ns.length≤10000) :
  Calls Tryz.prog 122 #[.pointer (some ⟨g,0,none⟩),.agg (ndC1 x).toArray] w (RetNd B g s i ns.length (ns++[x]) vl modes down w):=by
 obtain⟨ip,hp,hp0,hp1,hp2⟩:=info_parts node_info
 obtain⟨ap,cp,rfl,o1,o2⟩:=own_fm h.own
 have BL:=h.lt
 have hb0:=(Below.refl w.heap.size w).alloc lr_ (.cells (ndC1 x).toArray 161)
 have H0:=hide (h.below hb0)
 have KW:Hid (Dk B w (w.alloc (.cells (ndC1 x).toArray 161))):=.below BL hb0
 have XB:Hid (Blk (w.alloc (.cells (ndC1 x).toArray 161)) w.heap.size 161 (ndC1 x)):=heap_alloc_new _ _
 have OWNX:Hid (some w.heap.size≠(Value.slice ap ns.length cp).ownBlock):=fun e=>by
  have:=(World.ownsRow.lt h.own _ e.symm).2;omega
 have gl:=blk_lt h.rb
 have c1:=bc_ 1 H0.out.rb rfl
 clear h hb0
 go_enter Tryz.func122,Tryz.ntmps122
 go_wp2_with fail
 generalize w.alloc (.cells (ndC1 x).toArray 161)=W0 at *
 generalize w.heap.size=gx at *
 have hb2:=((Below.refl W0.heap.size W0).alloc lr_ (.cells (ndC1 x).toArray 161)).drew
 have H2:=hide (H0.out.below hb2)
 have K1:Hid (Dk B W0 (W0.alloc (.cells (ndC1 x).toArray 161)).drew):=.below H0.out.lt hb2
 have XB2:=hide (blk_below XB.out hb2 (blk_lt XB.out))
 have BL2:B≤(W0.alloc (.cells (ndC1 x).toArray 161)).drew.heap.size:=H2.out.lt
 have S1:W0.drew.rangeAt gx 0 (ndC1 x):=blk_range (W:=W0.drew) XB.out
 have S2:(W0.alloc (.cells (ndC1 x).toArray 161)).drew.rangeAt gx 0 (ndC1 x):=blk_range XB2.out
 have rl:=blk_lt H0.out.rb
 have ne1:g≠W0.heap.size:=by omega
 have ne2:W0.heap.size≠g:=by omega
 clear hb2
 refine wp_region_held_drew (S:=fun w'=>w'.rangeAt gx 0 (ndC1 x)) (by kernel_rfl) S1 (fun hHeld=>?_)
 refine wpAnyH_take (i:=0) (v:=?v0) rfl (by kernel_rfl) (by kernel_rfl) (by kernel_rfl) (fun _ _ _ h=>h) (Or.inl ⟨by rfl,?hy0⟩) (by assumption) ?rest0
 case hy0=>(intro w hSw;(try dsimp only at hSw);go_simp;try (with_reducible rfl))
 try simp only [List.getElem_toArray,List.getElem_cons_zero,Act.put,List.setIfInBounds_toArray,List.set_cons_zero,List.set_cons_succ]
 refine wpAnyH_take (i:=1) (v:=?v1) rfl (by kernel_rfl) (by kernel_rfl) (by kernel_rfl) (fun _ _ _ h=>h) (Or.inl ⟨by rfl,?hy1⟩) (by assumption) ?rest1
 case hy1=>(intro w hSw;(try dsimp only at hSw);go_simp;try (with_reducible rfl))
 try simp only [tk_,Act.put]
 refine wpAnyH_take (i:=2) (v:=?v2) rfl (by kernel_rfl) (by kernel_rfl) (by kernel_rfl) (fun _ _ _ h=>h) (Or.inl ⟨by rfl,?hy2⟩) (by assumption) ?rest2
 case hy2=>(intro w hSw;(try dsimp only at hSw);go_simp;try (with_reducible rfl))
 try simp only [tk_,Act.put]
 refine wpAnyH_take (i:=3) (v:=?v3) rfl (by kernel_rfl) (by kernel_rfl) (by kernel_rfl) (fun _ _ _ h=>h) (Or.inl ⟨by rfl,?hy3⟩) (by assumption) ?rest3
 case hy3=>(intro w hSw;(try dsimp only at hSw);go_simp;try (with_reducible rfl))
 try simp only [tk_,Act.put]
 refine wpAnyH_take (i:=5) (v:=(.agg (ndC1 x).toArray)) rfl (by kernel_rfl) (by kernel_rfl) (by kernel_rfl) (fun _ _ _ h=>h) (yieldsIf_load_mid (by rfl) 161 (.tmp 3) rfl gx 0 rfl (ndC1 x) _ (fun _ hS=>hS) Tryz.underlying161 rfl (by rw [ndC1_length];exact node_size)) (by assumption) ?_
 try simp only [tk_,Act.put]
 refine wpAnyH_ready (rs:=[4,6]) (by kernel_rfl) (by simp) ?_
 refine AllReadyH.cons rfl (fun K hK=>?_) (AllReadyH.cons rfl (fun K hK=>?_) AllReadyH.nil)
 ·go_simp
  refine hK.out _ _ hHeld (fun hHeld2=>?_);clear hK K
  try simp only [tk_,Act.put]
  refine wpAnyH_ready (rs:=[6]) (by kernel_rfl) (by simp) ?_
  refine AllReadyH.cons rfl (fun K hK=>?_) AllReadyH.nil;refine wp_buildSlice1 96 161 0 (.tmp 10) (.agg (ndC1 x).toArray) rfl rfl (ndC1 x).toArray ip _ 259 Tryz.underlying96 hp hp0 hp1 (by omega) (by omega) (node_fill x) ?_
  refine hK.out _ _ S2 (fun hHeld3=>?_);clear hK K
  try simp only [tk_,Act.put]
  refine wpAnyH_ready (rs:=[7]) (by kernel_rfl) (by simp) ?_
  refine AllReadyH.cons rfl (fun K hK=>?_) AllReadyH.nil;refine step_append_lies _ (by rfl) _ _ _ (by rfl) B 161 ip _ 259 280 Tryz.underlying96 hp hp0 hp1 hp2 (by simp [Value.cells,ndZ_length]) (by omega) (.slice ap ns.length cp) ns.length (ndC ns) (by rfl) H2.out.own ⟨W0.heap.size,0,none⟩ 1 1 (ndC1 x) (by rfl) (by rw [ndC1_length]) (World.news_of_block (cs:=(ndC1 x).toArray) (t:=161) (fr:=(0,0)) (heap_alloc_new _ _)) (ndC1_ones x) (by omega) (by unfold maxLen;omega) (by omega) BL2 (W0.heap.size+1) (by simp) ?_
  intro g2 cap2 w2 hown2 hgrow2 hat2 hlt2;clear hat2 hlt2;have K2:=Dk.row H2.out.own BL2 hgrow2;have mb2:Db w2 g s i (.slice ap ns.length cp) vl modes down:=row_far H2.out.own H2.out.rb (by decide) hgrow2;have xb2:=blk_grown XB2.out hgrow2 OWNX.out;refine hK.out _ _ (blk_range xb2) (fun hHeld4=>?_);have k5:=bc_ 1 mb2 rfl;have f5':=blk_frozen mb2 1;clear hK K
  try simp only [tk_,Act.put]
  refine wpAnyH_take (i:=8) (v:=?va8) rfl (by kernel_rfl) (by kernel_rfl) (by kernel_rfl) (fun _ _ _ h=>h) (Or.inl ⟨by rfl,?hya8⟩) (by assumption) ?resta8
  case hya8=>(intro w hSw;(try dsimp only at hSw);go_simp;try (with_reducible rfl))
  try simp only [tk_,Act.put]
  refine wpAnyH_take (i:=9) (v:=?va9) rfl (by kernel_rfl) (by kernel_rfl) (by kernel_rfl) (fun _ _ _ h=>h) (Or.inl ⟨by rfl,?hya9⟩) (by assumption) ?resta9
  case hya9=>(intro w hSw;(try dsimp only at hSw);go_simp;try (with_reducible rfl))
  try simp only [tk_,Act.put]
  refine wpAnyH_ready (rs:=[10]) (by kernel_rfl) (by simp) ?_
  refine AllReadyH.cons rfl (fun K hK=>?_) AllReadyH.nil
  go_simp
  have hg3:=Lib.grownBy_setCell w2 g 1 (.slice (some ⟨g2,0,none⟩) (ns.length+1) cap2);have xb3:=blk_grown xb2 hg3 (fun e=>blk_ne2 xb2 mb2 (by decide) (Option.some.inj e));refine hK.out _ _ (blk_range xb3) (fun hHeld5=>?_);clear hK K;refine wpAnyH_done (by kernel_rfl) ?_ _;have K3:Hid (Dk B w (w2.setCell ⟨g,1,none⟩ (.slice (some ⟨g2,0,none⟩) (ns.length+1) cap2))):=(KW.out.trans (K1.out.trans K2)).trans (.grown mb2 H2.out.up (.inl rfl) hg3)
  have R3:Hid (Dr B g s i (ns++[x]) (.slice (some ⟨g2,0,none⟩) (ns.length+1) cap2) vl modes down (w2.setCell ⟨g,1,none⟩ (.slice (some ⟨g2,0,none⟩) (ns.length+1) cap2))):=by
   refine⟨mb2.nodes _,H2.out.up,?_⟩;have:=row_apart hown2 mb2 (by decide) hg3;rw [ndC_append,ndC_one,List.length_append];exact this
  clear hHeld hHeld2 hHeld3 hHeld4 hHeld5 mb2 xb2 xb3 k5 f5' hown2 hgrow2 K2 hg3 H2 XB2;generalize w2.setCell ⟨g,1,none⟩ (.slice (some ⟨g2,0,none⟩) (ns.length+1) cap2)=W4 at *;have q1:=bc_ 1 R3.out.rb rfl;have ws:IntKind.i64.wrap ((ns.length:Int)+1-1)=(ns.length:Int):=by rw [wrap_in _ (by omega) (by omega)];omega
  go_wp2;go_ret;exact⟨rfl,K3.out,_,R3.out⟩
 ·have c2':=blk_cell (j:=1) H2.out.rb rfl
  refine wp_buildSlice1 96 161 0 (.tmp 10) (.agg (ndC1 x).toArray) rfl rfl (ndC1 x).toArray ip _ 259 Tryz.underlying96 hp hp0 hp1 (by omega) (by omega) (node_fill x) ?_
  refine hK.out _ _ S2 (fun hHeld2=>?_);clear hK K
  try simp only [tk_,Act.put]
  refine wpAnyH_ready (rs:=[4]) (by kernel_rfl) (by simp) ?_
  refine AllReadyH.cons rfl (fun K hK=>?_) AllReadyH.nil
  go_simp
  refine hK.out _ _ S2 (fun hHeld3=>?_);clear hK K
  try simp only [tk_,Act.put]
  refine wpAnyH_ready (rs:=[7]) (by kernel_rfl) (by simp) ?_
  refine AllReadyH.cons rfl (fun K hK=>?_) AllReadyH.nil;refine step_append_lies _ (by rfl) _ _ _ (by rfl) B 161 ip _ 259 280 Tryz.underlying96 hp hp0 hp1 hp2 (by simp [Value.cells,ndZ_length]) (by omega) (.slice ap ns.length cp) ns.length (ndC ns) (by rfl) H2.out.own ⟨W0.heap.size,0,none⟩ 1 1 (ndC1 x) (by rfl) (by rw [ndC1_length]) (World.news_of_block (cs:=(ndC1 x).toArray) (t:=161) (fr:=(0,0)) (heap_alloc_new _ _)) (ndC1_ones x) (by omega) (by unfold maxLen;omega) (by omega) BL2 (W0.heap.size+1) (by simp) ?_
  intro g2 cap2 w2 hown2 hgrow2 hat2 hlt2;clear hat2 hlt2;have K2:=Dk.row H2.out.own BL2 hgrow2;have mb2:Db w2 g s i (.slice ap ns.length cp) vl modes down:=row_far H2.out.own H2.out.rb (by decide) hgrow2;have xb2:=blk_grown XB2.out hgrow2 OWNX.out;refine hK.out _ _ (blk_range xb2) (fun hHeld4=>?_);have k5:=bc_ 1 mb2 rfl;have f5':=blk_frozen mb2 1;clear hK K
  try simp only [tk_,Act.put]
  refine wpAnyH_take (i:=8) (v:=?vb8) rfl (by kernel_rfl) (by kernel_rfl) (by kernel_rfl) (fun _ _ _ h=>h) (Or.inl ⟨by rfl,?hyb8⟩) (by assumption) ?restb8
  case hyb8=>(intro w hSw;(try dsimp only at hSw);go_simp;try (with_reducible rfl))
  try simp only [tk_,Act.put]
  refine wpAnyH_take (i:=9) (v:=?vb9) rfl (by kernel_rfl) (by kernel_rfl) (by kernel_rfl) (fun _ _ _ h=>h) (Or.inl ⟨by rfl,?hyb9⟩) (by assumption) ?restb9
  case hyb9=>(intro w hSw;(try dsimp only at hSw);go_simp;try (with_reducible rfl))
  try simp only [tk_,Act.put]
  refine wpAnyH_ready (rs:=[10]) (by kernel_rfl) (by simp) ?_
  refine AllReadyH.cons rfl (fun K hK=>?_) AllReadyH.nil
  go_simp
  have hg3:=Lib.grownBy_setCell w2 g 1 (.slice (some ⟨g2,0,none⟩) (ns.length+1) cap2);have xb3:=blk_grown xb2 hg3 (fun e=>blk_ne2 xb2 mb2 (by decide) (Option.some.inj e));refine hK.out _ _ (blk_range xb3) (fun hHeld5=>?_);clear hK K;refine wpAnyH_done (by kernel_rfl) ?_ _;have K3:Hid (Dk B w (w2.setCell ⟨g,1,none⟩ (.slice (some ⟨g2,0,none⟩) (ns.length+1) cap2))):=(KW.out.trans (K1.out.trans K2)).trans (.grown mb2 H2.out.up (.inl rfl) hg3)
  have R3:Hid (Dr B g s i (ns++[x]) (.slice (some ⟨g2,0,none⟩) (ns.length+1) cap2) vl modes down (w2.setCell ⟨g,1,none⟩ (.slice (some ⟨g2,0,none⟩) (ns.length+1) cap2))):=by
   refine⟨mb2.nodes _,H2.out.up,?_⟩;have:=row_apart hown2 mb2 (by decide) hg3;rw [ndC_append,ndC_one,List.length_append];exact this
  clear hHeld hHeld2 hHeld3 hHeld4 hHeld5 mb2 xb2 xb3 k5 f5' hown2 hgrow2 K2 hg3 H2 XB2;generalize w2.setCell ⟨g,1,none⟩ (.slice (some ⟨g2,0,none⟩) (ns.length+1) cap2)=W4 at *;have q1:=bc_ 1 R3.out.rb rfl;have ws:IntKind.i64.wrap ((ns.length:Int)+1-1)=(ns.length:Int):=by rw [wrap_in _ (by omega) (by omega)];omega
  go_wp2;go_ret;exact⟨rfl,K3.out,_,R3.out⟩
namespace Pure
theorem Sg.bd {s:ByteArray} {i j:Nat} {v:Int} (h:Sg s i j v):0≤v∧v≤255∧pkb s i≠93:=by
 cases h with
 | plain h1 h2=>
  have:=pkb_bd s i;omega
 | esc h1 h2=>
  have:=pkb_bd s (i+1);unfold Esc at h2;omega
theorem It.bd {s:ByteArray} {i j:Nat} {lo hi:Int} {r:Bool} (h:It s i j lo hi r):0≤lo∧lo≤255∧0≤hi∧hi≤255∧pkb s i≠93:=by
 cases h with
 | one h1 _=>have:=h1.bd;omega
 | range h1 _ h3=>have:=h1.bd;have:=h3.bd;omega
theorem Cl.beg {s:ByteArray} {i k:Nat} {T T':Nat→Bool} {D D':Bool} (h:Cl s i T D k T' D'):pkb s i≠93∧i<s.size∧k≤s.size:=by
 induction h with
 | done h1 h2=>exact⟨h1.bd.2.2.2.2,by have:=h1.lt;have:=h1.le;omega,pkb_lt (s:=s) (by rw [h2];decide)⟩
 | more h1 _ _ ih=>exact⟨h1.bd.2.2.2.2,by have:=h1.lt;have:=h1.le;omega,ih.2.2⟩
def upd (nl:Int) (D:Bool) (down:Int):Int:=if D=true∧down<0 then nl else down
theorem upd_false (nl down:Int):upd nl false down=down:=by unfold upd;rw [if_neg (by simp)]
theorem upd_or {nl:Int} (h:0≤nl) (D D':Bool) (down:Int):upd nl D' (upd nl D down)=upd nl (D || D') down:=by
 unfold upd
 cases D <;> cases D' <;> simp
 split <;> omega
theorem wid_none (T:Nat→Bool) {lo hi:Int} (h:hi<lo):wid T lo hi=T:=by
 funext n
 unfold wid
 have:¬(lo≤(n:Int)∧(n:Int)≤hi):=by omega
 cases hT:T n
 ·simp only [Bool.false_or]
  rw [←Bool.decide_and];exact decide_eq_false this
 ·rfl
theorem wid_step (T:Nat→Bool) (lo:Int) (c:Nat) (h:lo≤(c:Int)):(fun n=>if n=c then true else wid T lo ((c:Int)-1) n)=wid T lo (c:Int):=by
 funext n
 unfold wid
 by_cases e:n=c
 ·subst e
  simp [h]
 ·rw [if_neg e]
  congr 1;congr 1;have:((n:Int)≤(c:Int)-1)↔((n:Int)≤(c:Int)):=by omega
  exact decide_eq_decide.2 this
end Pure
theorem row_keep {w w':World} {base e size n g:Nat} {v:Value} {xs:List Value} (h:w.ownsRow base e size v n xs) (hne:some g≠v.ownBlock) (hg:w.grownBy w' (some g)):w'.ownsRow base e size v n xs:=by
 refine⟨h.1,?_⟩
 rcases h.2 with h0 | ⟨g',cap,cur,h1,h2,h3,h4⟩
 ·exact .inl h0
 ·refine .inr ⟨g',cap,cur,h1,h2,?_,h4⟩
  have hl:=(Array.getElem?_eq_some_iff.1 h3).1;rw [hg.block g' hl (fun e=>hne (by rw [←e,h1];rfl))];exact h3
theorem Dk.fresh {B g:Nat} {w w1 w2:World} (h:Dk B w w1) (hg:w1.grownBy w2 (some g)) (h1:w.heap.size≤g) (h2:B≤w.heap.size):Dk B w w2:=by
 refine⟨h.lo.grown hg (Nat.le_trans h2 h.lo.size) (fun k e=>by cases e;omega),fun k cs t fr hk a b=>?_⟩
 have hl:=(Array.getElem?_eq_some_iff.1 hk).1
 have:=h.keep k cs t fr hk a b
 rw [hg.block k (Nat.lt_of_lt_of_le hl h.lo.size) (fun e=>by cases e;omega)]
 exact this
theorem node_built1 (k:Int):Tryz.prog.built 161 [(0,.int .i64 k)]=some (.int .i64 k::.int .i64 0::.int .i64 0::bitsL Pure.noneB).toArray:=by
 rw [←bits_zero]
 kernel_rfl
theorem node_built2 (k l:Int):Tryz.prog.built 161 [(0,.int .i64 k),(1,.int .i64 l)]=some (.int .i64 k::.int .i64 l::.int .i64 0::bitsL Pure.noneB).toArray:=by
 rw [←bits_zero]
 kernel_rfl
theorem node_built3 (k l r:Int):Tryz.prog.built 161 [(0,.int .i64 k),(1,.int .i64 l),(2,.int .i64 r)]=some (.int .i64 k::.int .i64 l::.int .i64 r::bitsL Pure.noneB).toArray:=by
 rw [←bits_zero]
 kernel_rfl
structure DC (B g:Nat) (s:ByteArray) (j:Nat) (ns:List Pure.Nd) (vn vl:Value) (modes down:Int) (w:World) (gx:Nat) (T:Nat→Bool) (W:World):Prop where
 dr:Dr B g s j ns vn vl modes down W
 dk:Dk B w W
 x:Blk W gx 161 (ndC1 ⟨1,0,0,T⟩)
 ap:w.heap.size≤gx∧B≤w.heap.size∧some gx≠vn.ownBlock∧g≠gx
section
variable {B g:Nat} {s:ByteArray} {j j':Nat} {ns:List Pure.Nd} {vn vl:Value} {modes down down':Int} {w:World} {gx:Nat} {T:Nat→Bool} {W W':World}
theorem DC.below (h:DC B g s j ns vn vl modes down w gx T W) (hb:Below W.heap.size W W'):DC B g s j ns vn vl modes down w gx T W':=
 ⟨h.dr.below hb,h.dk.trans (.below h.dr.lt hb),blk_below h.x hb (blk_lt h.x),h.ap⟩
theorem DC.moved (h:DC B g s j ns vn vl modes down w gx T W) (hg:W.grownBy W' (some g)) (hr:Db W' g s j' vn vl modes down'):DC B g s j' ns vn vl modes down' w gx T W':=
 ⟨h.dr.moved hg hr,h.dk.trans (h.dr.dk hg),blk_grown h.x hg (fun e=>h.ap.2.2.2 (Option.some.inj e).symm),h.ap⟩
theorem ndC1_set (T:Nat→Bool) (c:Nat) (b:Bool):(ndC1 ⟨1,0,0,T⟩).set (3+c) (.bool b)=ndC1 ⟨1,0,0,fun n=>if n=c then b else T n⟩:=by
 unfold ndC1
 rw [show 3+c=c+1+1+1 by omega,List.set_cons_succ,List.set_cons_succ,List.set_cons_succ,bitsL_set]
theorem DC.bit (h:DC B g s j ns vn vl modes down w gx T W) (c:Nat) (b:Bool):DC B g s j ns vn vl modes down w gx (fun n=>if n=c then b else T n) (W.setCell ⟨gx,3+c,none⟩ (.bool b)):=by
 have hg:=Lib.grownBy_setCell W gx (3+c) (.bool b)
 refine⟨⟨blk_other h.dr.rb h.ap.2.2.2 _ _,h.dr.up,row_keep h.dr.own h.ap.2.2.1 hg⟩,h.dk.fresh hg h.ap.1 h.ap.2.1,?_,h.ap⟩
 have:=blk_set h.x (3+c) (.bool b)
 rw [ndC1_set] at this
 exact this
theorem DC.new (h:Dr B g s j ns vn vl modes down W) (hk:Dk B w W) (hB:B≤w.heap.size):DC B g s j ns vn vl modes down w W.heap.size Pure.noneB ((W.alloc (.cells ndZ.toArray 161)).setCells W.heap.size 0 (ndC1 ⟨1,0,0,Pure.noneB⟩)):=by
 have x0:Blk (W.alloc (.cells ndZ.toArray 161)) W.heap.size 161 ndZ:=heap_alloc_new _ _
 have bw:Below W.heap.size W ((W.alloc (.cells ndZ.toArray 161)).setCells W.heap.size 0 (ndC1 ⟨1,0,0,Pure.noneB⟩)):=below_cells (g:=W.heap.size) lr_ _ 0 _ ((Below.refl W.heap.size W).alloc lr_ _)
 exact⟨h.below bw,hk.trans (.below h.lt bw),blk_stored _ x0 (by rw [ndZ_length,ndC1_length]),hk.lo.size,hB,fun e=>by have:=(World.ownsRow.lt h.own _ e.symm).2;omega,by have:=blk_lt h.rb;omega⟩
theorem DC.there (h:DC B g s j ns vn vl modes down w gx T W):W.rangeAt gx 0 (ndC1 ⟨1,0,0,T⟩):=blk_range h.x
end
theorem ndZ_there {W:World} (x:Pure.Nd):(W.alloc (.cells ndZ.toArray 161)).there W.heap.size 0 (ndC1 x).toArray.size:=by
 have x0:Blk (W.alloc (.cells ndZ.toArray 161)) W.heap.size 161 ndZ:=heap_alloc_new _ _
 have:=blk_there x0
 rw [ndZ_length] at this
 simpa [ndC1_length] using this
theorem ndC1_sz (x:Pure.Nd):(Tryz.prog.info? 161).map (·.size)=some (ndC1 x).toArray.size:=by
 rw [List.size_toArray,ndC1_length]
 exact node_size
end Go.Proofs.YtmccnmgaoppogaaGreat
