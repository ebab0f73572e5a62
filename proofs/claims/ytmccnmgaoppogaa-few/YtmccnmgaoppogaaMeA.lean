/-
 The walks: small functions.
 Lists of numbers, rules and instructions in memory that a call has made.
 Copying rows of whatever width.
 The walks: bytes that are read. (images)
 A program that came in, copied into rows of the call's own.
-/
import Derived.Test.YtmccnmgaoppogaaRows
import Derived.Test.YtmccnmgaoppogaaPuA
import Derived.WalkKit
import Derived.WalkSpells
import Derived.WalkLawsBesides
import Derived.Laws.CopyOwn
import Derived.Deep.RegionHeld3
import Derived.Deep.AppendLies
import Derived.Deep.QuietTactic
import Derived.BigQuiet
import Derived.Laws.IdiomStrings
namespace Go.Proofs.Ytmccnmgaoppogaa
open Go.RowKit
theorem bn_ {w:World} (o:Obj):Below w.heap.size w (w.alloc o):=(Below.refl _ _).alloc (Nat.le_refl _) o
theorem ret_bool {a b:Bool} (h:a=b):Ending.returned (.bool a)=.returned (.bool b):=by rw [h]
def RetB (P:Prop) (w:World) (e:Ending) (w':World):Prop:=∃b,e=.returned (.bool b)∧(b=true↔P)∧Below w.heap.size w w'
theorem retB {P:Prop} {w w':World} {b:Bool} (h:b=true↔P) (hb:Below w.heap.size w w'):RetB P w (.returned (.bool b)) w':=⟨b,rfl,h,hb⟩
theorem hide {p:Prop} (h:p):Hid p:=h
def intCells (l:List Int):List Value:=l.map (Value.int .i64)
def ruleCells (l:List Pu.Rule):List Value:=l.flatMap (fun r=>[.int .i64 r.emit,.int .i64 r.act,.int .i64 r.mode])
def insCells (l:List Pu.Ins):List Value:=l.flatMap (fun x=>[.int .i64 x.op,.int .i64 x.a,.int .i64 x.b,.int .i64 x.to])
theorem intCells_get (l:List Int) (i:Nat) (h:i<l.length):(intCells l)[i]?=some (.int .i64 (l.getD i 0)):=by
 simp [intCells,List.getElem?_eq_getElem h]
theorem ruleCells_get (l:List Pu.Rule):∀(i:Nat),i<l.length→(ruleCells l)[3*i]?=some (.int .i64 (l.getD i Pu.r0).emit)∧(ruleCells l)[3*i+1]?=some (.int .i64 (l.getD i Pu.r0).act)∧(ruleCells l)[3*i+2]?=some (.int .i64 (l.getD i Pu.r0).mode):=by
 induction l with
 | nil=>intro i h;simp at h
 | cons x r ih=>
  intro i h
  cases i with
  | zero=>simp [ruleCells]
  | succ i=>
   have:=ih i (by simpa using h);simp only [ruleCells,List.flatMap_cons] at this ⊢
   have e:∀j,([Value.int .i64 x.emit,.int .i64 x.act,.int .i64 x.mode]++List.flatMap (fun r:Pu.Rule=>[Value.int .i64 r.emit,.int .i64 r.act,.int .i64 r.mode]) r)[3*(i+1)+j]?=(List.flatMap (fun r:Pu.Rule=>[Value.int .i64 r.emit,.int .i64 r.act,.int .i64 r.mode]) r)[3*i+j]?:=by
    intro j;rw [List.getElem?_append_right (by simp;omega)];congr 1;simp;omega
   have e0:=e 0;rw [Nat.add_zero,Nat.add_zero] at e0;rw [e0,e 1,e 2];simpa using this
theorem insCells_get (l:List Pu.Ins):∀(i:Nat),i<l.length→(insCells l)[4*i]?=some (.int .i64 (l.getD i Pu.i0).op)∧(insCells l)[4*i+1]?=some (.int .i64 (l.getD i Pu.i0).a)∧(insCells l)[4*i+2]?=some (.int .i64 (l.getD i Pu.i0).b)∧(insCells l)[4*i+3]?=some (.int .i64 (l.getD i Pu.i0).to):=by
 induction l with
 | nil=>intro i h;simp at h
 | cons x r ih=>
  intro i h
  cases i with
  | zero=>simp [insCells]
  | succ i=>
   have:=ih i (by simpa using h);simp only [insCells,List.flatMap_cons] at this ⊢
   have e:∀j,([Value.int .i64 x.op,.int .i64 x.a,.int .i64 x.b,.int .i64 x.to]++List.flatMap (fun r:Pu.Ins=>[Value.int .i64 r.op,.int .i64 r.a,.int .i64 r.b,.int .i64 r.to]) r)[4*(i+1)+j]?=(List.flatMap (fun r:Pu.Ins=>[Value.int .i64 r.op,.int .i64 r.a,.int .i64 r.b,.int .i64 r.to]) r)[4*i+j]?:=by
    intro j;rw [List.getElem?_append_right (by simp;omega)];congr 1;simp;omega
   have e0:=e 0;rw [Nat.add_zero,Nat.add_zero] at e0;rw [e0,e 1,e 2,e 3];simpa using this
theorem own_read {w:World} {base e size n:Nat} {v:Value} {xs:List Value} (h:w.ownsRow base e size v n xs) :
  ∃ao cap,v=.slice ao n cap∧n≤cap∧cap≤maxLen∧∀i,i<n*size→∃b,ao=some ⟨b,0,none⟩∧b<w.heap.size∧base≤b∧∀j u,xs[j]?=some u→w.cell? ⟨b,j,none⟩=some u:=by
 rcases h.2 with ⟨rfl,rfl⟩ | ⟨g,cap,cur,rfl,hb,hg,hn,hm,_,_⟩
 ·exact⟨none,0,rfl,lr_,Nat.zero_le _,fun i hi=>by omega⟩
 ·refine⟨some ⟨g,0,none⟩,cap,rfl,hn,hm,fun i _=>⟨g,rfl,(Array.getElem?_eq_some_iff.1 hg).1,hb,fun j u hu=>?_⟩⟩
  have:=h.cells (g:=g) rfl j u hu;by_cases hj:j=0
  ·subst hj;simpa [Addr.add] using this
  ·simpa [Addr.add,hj] using this
theorem own_below {B:Nat} {w w':World} {base e size n:Nat} {v:Value} {xs:List Value} (h:w.ownsRow base e size v n xs) (hb:Below B w w') (hB:w.heap.size≤B):w'.ownsRow base e size v n xs:=by
 refine⟨h.1,?_⟩
 rcases h.2 with hn | ⟨g,cap,cur,rfl,hb',hgg,rest⟩
 ·exact .inl hn
 ·refine .inr ⟨g,cap,cur,rfl,hb',?_,rest⟩
  have:=(Array.getElem?_eq_some_iff.1 hgg).1;rw [hb.block g (by omega)];exact hgg
theorem own_mono {w:World} {base base' e size n:Nat} {v:Value} {xs:List Value} (h:w.ownsRow base e size v n xs) (hb:base'≤base):w.ownsRow base' e size v n xs:=by
 refine⟨h.1,?_⟩
 rcases h.2 with hn | ⟨g,cap,cur,rfl,hb',rest⟩
 ·exact .inl hn
 ·exact .inr ⟨g,cap,cur,rfl,by omega,rest⟩
def Ints (w:World) (v:Value) (l:List Int):Prop:=∃ao cap,v=.slice ao l.length cap∧l.length≤cap∧cap≤9223372036854775807∧
  ∀i,i<l.length→∃b off,ao=some ⟨b,off,none⟩∧b<w.heap.size∧w.cell? ⟨b,off+i,none⟩=some (.int .i64 (Pu.ig l i))
def Rules (w:World) (v:Value) (l:List Pu.Rule):Prop:=∃ao cap,v=.slice ao l.length cap∧l.length≤cap∧cap≤9223372036854775807∧
  ∀i,i<l.length→∃b off,ao=some ⟨b,off,none⟩∧b<w.heap.size∧w.cell? ⟨b,off+i*3,none⟩=some (.int .i64 (Pu.rg l i).emit)∧w.cell? ⟨b,off+i*3+1,none⟩=some (.int .i64 (Pu.rg l i).act)∧w.cell? ⟨b,off+i*3+2,none⟩=some (.int .i64 (Pu.rg l i).mode)
def Code (w:World) (v:Value) (l:List Pu.Ins):Prop:=∃ao cap,v=.slice ao l.length cap∧l.length≤cap∧cap≤9223372036854775807∧
  ∀i,i<l.length→∃b off,ao=some ⟨b,off,none⟩∧b<w.heap.size∧w.cell? ⟨b,off+i*4,none⟩=some (.int .i64 (Pu.cg l i).op)∧w.cell? ⟨b,off+i*4+1,none⟩=some (.int .i64 (Pu.cg l i).a)∧w.cell? ⟨b,off+i*4+2,none⟩=some (.int .i64 (Pu.cg l i).b)∧w.cell? ⟨b,off+i*4+3,none⟩=some (.int .i64 (Pu.cg l i).to)
theorem Ints.read {w:World} {v:Value} {l:List Int} (h:Ints w v l):∃ao cap,v=.slice ao l.length cap∧l.length≤cap∧cap≤9223372036854775807∧
  ∀i,i<l.length→∃b off,ao=some ⟨b,off,none⟩∧b<w.heap.size∧w.cell? ⟨b,off+i,none⟩=some (.int .i64 (Pu.ig l i)):=h
theorem Rules.read {w:World} {v:Value} {l:List Pu.Rule} (h:Rules w v l):∃ao cap,v=.slice ao l.length cap∧l.length≤cap∧cap≤9223372036854775807∧
  ∀i,i<l.length→∃b off,ao=some ⟨b,off,none⟩∧b<w.heap.size∧w.cell? ⟨b,off+i*3,none⟩=some (.int .i64 (Pu.rg l i).emit)∧w.cell? ⟨b,off+i*3+1,none⟩=some (.int .i64 (Pu.rg l i).act)∧w.cell? ⟨b,off+i*3+2,none⟩=some (.int .i64 (Pu.rg l i).mode):=h
theorem Code.read {w:World} {v:Value} {l:List Pu.Ins} (h:Code w v l):∃ao cap,v=.slice ao l.length cap∧l.length≤cap∧cap≤9223372036854775807∧
  ∀i,i<l.length→∃b off,ao=some ⟨b,off,none⟩∧b<w.heap.size∧w.cell? ⟨b,off+i*4,none⟩=some (.int .i64 (Pu.cg l i).op)∧w.cell? ⟨b,off+i*4+1,none⟩=some (.int .i64 (Pu.cg l i).a)∧w.cell? ⟨b,off+i*4+2,none⟩=some (.int .i64 (Pu.cg l i).b)∧w.cell? ⟨b,off+i*4+3,none⟩=some (.int .i64 (Pu.cg l i).to):=h
theorem Code.below {w w':World} {v:Value} {l:List Pu.Ins} (h:Code w v l) (hb:Below w.heap.size w w'):Code w' v l:=by
 obtain⟨ao,cap,h1,h2,h3,h4⟩:=h
 refine⟨ao,cap,h1,h2,h3,fun i hi=>?_⟩
 obtain⟨b,off,e,hl,hc0,hc1,hc2,hc3⟩:=h4 i hi
 have hs:=hb.size
 exact⟨b,off,e,by omega,(hb.cell (p:=⟨b,_,none⟩) hl).trans hc0,(hb.cell (p:=⟨b,_,none⟩) hl).trans hc1,(hb.cell (p:=⟨b,_,none⟩) hl).trans hc2,(hb.cell (p:=⟨b,_,none⟩) hl).trans hc3⟩
theorem own_ints {w:World} {base n:Nat} {v:Value} {l:List Int} (h:w.ownsRow base 3 1 v n (intCells l)) (hn:n=l.length):Ints w v l:=by
 subst hn
 obtain⟨ao,cap,h1,h2,h3,h4⟩:=own_read h
 unfold maxLen at h3
 refine⟨ao,cap,h1,h2,h3,fun i hi=>?_⟩
 obtain⟨b,hb,hl,_,hc⟩:=h4 i (by omega)
 refine⟨b,0,hb,hl,?_⟩
 rw [Nat.zero_add]
 exact hc i _ (intCells_get l i hi)
theorem own_rules {w:World} {base n:Nat} {v:Value} {l:List Pu.Rule} (h:w.ownsRow base 66 3 v n (ruleCells l)) (hn:n=l.length):Rules w v l:=by
 subst hn
 obtain⟨ao,cap,h1,h2,h3,h4⟩:=own_read h
 unfold maxLen at h3
 refine⟨ao,cap,h1,h2,h3,fun i hi=>?_⟩
 obtain⟨b,hb,hl,_,hc⟩:=h4 i (by omega)
 have g:=ruleCells_get l i hi
 rw [Nat.mul_comm] at g
 refine⟨b,0,hb,hl,?_⟩
 rw [Nat.zero_add]
 exact⟨hc _ _ g.1,hc _ _ g.2.1,hc _ _ g.2.2⟩
theorem own_code {w:World} {base n:Nat} {v:Value} {l:List Pu.Ins} (h:w.ownsRow base 103 4 v n (insCells l)) (hn:n=l.length):Code w v l:=by
 subst hn
 obtain⟨ao,cap,h1,h2,h3,h4⟩:=own_read h
 unfold maxLen at h3
 refine⟨ao,cap,h1,h2,h3,fun i hi=>?_⟩
 obtain⟨b,hb,hl,_,hc⟩:=h4 i (by omega)
 have g:=insCells_get l i hi
 rw [Nat.mul_comm] at g
 refine⟨b,0,hb,hl,?_⟩
 rw [Nat.zero_add]
 exact⟨hc _ _ g.1,hc _ _ g.2.1,hc _ _ g.2.2.1,hc _ _ g.2.2.2⟩
theorem bel0 {w wr w1:World} (h:Below w.heap.size w wr) (h1:Below wr.heap.size wr w1):Below w.heap.size w w1:=h.trans (h1.mono h.size)
theorem Try.info66 : (Try.prog.info? 66).map (fun i=>(i.zero,i.size,i.bytes))=some (some (.agg #[.int .i64 0,.int .i64 0,.int .i64 0]),3,24):=by kernel_rfl
theorem Try.info103 : (Try.prog.info? 103).map (fun i=>(i.zero,i.size,i.bytes))=some (some (.agg #[.int .i64 0,.int .i64 0,.int .i64 0,.int .i64 0]),4,32):=by kernel_rfl
def Blk (w:World) (g:Nat) (t:TypeId) (xs:List Value):Prop:=w.heap[g]?=some (.cells xs.toArray t (0,0))
theorem blk_cell {w:World} {g:Nat} {t:TypeId} {xs:List Value} (h:Blk w g t xs) {j:Nat} {u:Value} (hj:xs[j]?=some u):w.cell? ⟨g,j,none⟩=some u:=by
 unfold Blk at h
 simp [World.cell?,h,hj]
theorem bc_ {w:World} {g:Nat} {t:TypeId} {xs:List Value} (j:Nat) {v:Value} (h:Blk w g t xs) (e:xs[j]?=some v):w.cell? ⟨g,j,none⟩=some v:=blk_cell h e
theorem blk_frozen {w:World} {g:Nat} {t:TypeId} {xs:List Value} (h:Blk w g t xs) (j:Nat):w.frozen? ⟨g,j,none⟩=false:=by
 unfold Blk at h
 simp [World.frozen?,h]
theorem blk_lt {w:World} {g:Nat} {t:TypeId} {xs:List Value} (h:Blk w g t xs):g<w.heap.size:=(Array.getElem?_eq_some_iff.1 h).1
theorem blk_set {w:World} {g:Nat} {t:TypeId} {xs:List Value} (h:Blk w g t xs) (j:Nat) (u:Value):Blk (w.setCell ⟨g,j,none⟩ u) g t (xs.set j u):=by
 have:=heap_setCell_same w g j xs.toArray t u h
 unfold Blk
 rw [this]
 simp
theorem blk_other {w:World} {g g':Nat} {t:TypeId} {xs:List Value} (h:Blk w g t xs) (hne:g≠g') (j:Nat) (u:Value):Blk (w.setCell ⟨g',j,none⟩ u) g t xs:=by
 unfold Blk at h ⊢
 rw [Below.heap_setCell _ _ _ _ hne]
 exact h
theorem blk_alloc {w:World} {g:Nat} {t:TypeId} {xs:List Value} (h:Blk w g t xs) (o:Obj):Blk (w.alloc o) g t xs:=by
 unfold Blk
 rw [heap_alloc_old w o (blk_lt h)]
 exact h
theorem blk_grown {w w':World} {g:Nat} {row:Option Nat} {t:TypeId} {xs:List Value} (h:Blk w g t xs) (hg:w.grownBy w' row) (hne:some g≠row):Blk w' g t xs:=by
 unfold Blk
 rw [hg.block g (blk_lt h) hne]
 exact h
theorem blk_below {B:Nat} {w w':World} {g:Nat} {t:TypeId} {xs:List Value} (h:Blk w g t xs) (hb:Below B w w') (hg:g<B):Blk w' g t xs:=by
 unfold Blk
 rw [hb.block g hg]
 exact h
theorem Try.inff3 : (Try.prog.info? 3).map (fun i=>(i.zero,i.size,i.bytes))=some (some (.int .i64 0),1,8):=by kernel_rfl
theorem wrap_in (x:Int) (h0:-9223372036854775808≤x) (h1:x≤9223372036854775807):IntKind.i64.wrap x=x:=by
 rw [IntKind.wrap_i64];omega
theorem wr_ (x:Int) (h1:-9223372036854775808≤x+1) (h2:x+1≤9223372036854775807):IntKind.i64.wrap (x+1)=x+1:=wrap_in _ h1 h2
def bt (s:ByteArray) (n:Nat):Int:=((s.data.toList.getD n 0).toNat:Int)
theorem bt_bd (s:ByteArray) (n:Nat):0≤bt s n∧bt s n≤255:=by
 unfold bt
 have:=UInt8.toNat_lt (s.data.toList.getD n 0)
 omega
theorem idx_str (s:ByteArray) (i:Int) (n:Nat) (hi:i=n) (h:n<s.size) (w:World):(Instr.index 9 (.string s) (.int .i64 i)).run Try.prog w=.ok (.int .u8 (bt s n)) w:=by
 subst hi
 rw [run_index_string w _ _ _ _ Try.underlying9,dif_pos (by omega)]
 have e:bt s n=(((s[(n:Int).toNat]'(by simpa using h)).toNat:Nat):Int):=by
  have h':n<s.data.size:=h;unfold bt;simp only [Int.toNat_natCast];rw [List.getD_eq_getElem?_getD,List.getElem?_eq_getElem (by simpa using h')];rfl
 rw [e]
def pr (s:ByteArray) (n:Nat):Int:=bt s n+bt s (n+1)*256
def entsOf (s:ByteArray) (at0 k:Nat):List Int:=(List.range k).map (fun i=>pr s (at0+2*i))
def rulesOf (s:ByteArray) (at0 k:Nat):List Pu.Rule:=(List.range k).map (fun i=>⟨bt s (at0+3*i),bt s (at0+3*i+1),bt s (at0+3*i+2)⟩)
def codeOf (s:ByteArray) (at0 k:Nat):List Pu.Ins:=(List.range k).map (fun i=>⟨bt s (at0+5*i),bt s (at0+5*i+1),bt s (at0+5*i+2),pr s (at0+5*i+3)⟩)
theorem ents_step (s:ByteArray) (at0 k:Nat):intCells (entsOf s at0 (k+1))=intCells (entsOf s at0 k)++[.int .i64 (bt s (at0+2*k)+bt s (at0+2*k+1)*256)]:=by
 simp [entsOf,intCells,List.range_succ,pr]
theorem rules_step (s:ByteArray) (at0 k:Nat):ruleCells (rulesOf s at0 (k+1))=ruleCells (rulesOf s at0 k)++[.int .i64 (bt s (at0+3*k)),.int .i64 (bt s (at0+3*k+1)),.int .i64 (bt s (at0+3*k+2))]:=by
 unfold rulesOf ruleCells
 rw [List.range_succ,List.map_append,List.flatMap_append]
 simp
theorem code_step (s:ByteArray) (at0 k:Nat):insCells (codeOf s at0 (k+1))=insCells (codeOf s at0 k)++[.int .i64 (bt s (at0+5*k)),.int .i64 (bt s (at0+5*k+1)),.int .i64 (bt s (at0+5*k+2)),.int .i64 (bt s (at0+5*k+3)+bt s (at0+5*k+3+1)*256)]:=by
 unfold codeOf insCells
 rw [List.range_succ,List.map_append,List.flatMap_append]
 simp [pr]
theorem entsOf_len (s:ByteArray) (at0 k:Nat):(entsOf s at0 k).length=k:=by simp [entsOf]
theorem rulesOf_len (s:ByteArray) (at0 k:Nat):(rulesOf s at0 k).length=k:=by simp [rulesOf]
theorem codeOf_len (s:ByteArray) (at0 k:Nat):(codeOf s at0 k).length=k:=by simp [codeOf]
def RetRow (e size n:Nat) (xs:List Value) (w:World) (en:Ending) (w':World):Prop:=∃v,en=.returned v∧Below w.heap.size w w'∧w'.ownsRow w.heap.size e size v n xs
theorem cell_list3 {w:World} {xs:List Value} {t:TypeId} {n:Nat} (hn:n=w.heap.size) (j:Nat) (u:Value) (h:xs[j]?=some u):(w.alloc (.cells xs.toArray t)).cell? ((⟨n,0,none⟩:Addr).add j)=some u:=by
 subst hn
 have:(w.alloc (.cells xs.toArray t)).cell? ⟨w.heap.size,j,none⟩=some u:=by
  rw [World.cell?_alloc_mark];simpa using h
 by_cases hj:j=0
 ·subst hj;simpa [Addr.add] using this
 ·simpa [Addr.add,hj] using this
theorem add_eq (b off j:Nat):(⟨b,off,none⟩:Addr).add j=⟨b,off+j,none⟩:=by
 unfold Addr.add;split <;> simp_all
theorem own_set {w:World} {base e size n g cap j:Nat} {xs:List Value} {u:Value} (h:w.ownsRow base e size (.slice (some ⟨g,0,none⟩) n cap) n xs):(w.setCell ⟨g,j,none⟩ u).ownsRow base e size (.slice (some ⟨g,0,none⟩) n cap) n (xs.set j u):=by
 refine⟨by rw [List.length_set];exact h.1,?_⟩
 rcases h.2 with ⟨h',_⟩ | ⟨g',cap',cur,h',hb,hg,hn,hm,hcs,htake⟩
 ·simp at h'
 ·simp only [Value.slice.injEq,Option.some.injEq,Addr.mk.injEq,and_true,true_and] at h'
  obtain⟨rfl,rfl⟩:=h';refine .inr ⟨g,cap,_,rfl,hb,heap_setCell_same w g j cur e u hg,hn,hm,by simpa using hcs,?_⟩;rw [←htake];simp [List.take_set]
theorem own_frozen {w:World} {base e size n g cap:Nat} {xs:List Value} (h:w.ownsRow base e size (.slice (some ⟨g,0,none⟩) n cap) n xs) (j:Nat):w.frozen? ⟨g,j,none⟩=false:=by
 rcases h.2 with ⟨h',_⟩ | ⟨g',cap',cur,h',hb,hg,hn,hm,hcs,htake⟩
 ·simp at h'
 ·simp only [Value.slice.injEq,Option.some.injEq,Addr.mk.injEq,and_true,true_and] at h'
  obtain⟨rfl,rfl⟩:=h';simp [World.frozen?,hg]
theorem own_base {w:World} {base e size n g cap:Nat} {xs:List Value} (h:w.ownsRow base e size (.slice (some ⟨g,0,none⟩) n cap) n xs):base≤g∧g<w.heap.size:=by
 rcases h.2 with ⟨h',_⟩ | ⟨g',cap',cur,h',hb,hg,hn,hm,hcs,htake⟩
 ·simp at h'
 ·simp only [Value.slice.injEq,Option.some.injEq,Addr.mk.injEq,and_true,true_and] at h'
  obtain⟨rfl,rfl⟩:=h';exact⟨hb,(Array.getElem?_eq_some_iff.1 hg).1⟩
theorem own_some {w:World} {base e size n:Nat} {v:Value} {xs:List Value} (h:w.ownsRow base e size v n xs) (hn:0<n):∃g cap,v=.slice (some ⟨g,0,none⟩) n cap∧n≤cap∧cap≤9223372036854775807:=by
 rcases h.2 with ⟨h',h0⟩ | ⟨g',cap',cur,h',hb,hg,hn',hm,hcs,htake⟩
 ·omega
 ·unfold maxLen at hm
  exact⟨g',cap',h',hn',hm⟩
theorem own_nil (w:World) (base e size:Nat):w.ownsRow base e size (.slice none 0 0) 0 []:=⟨by simp,.inl ⟨rfl,rfl⟩⟩
theorem insCells_set (l:List Pu.Ins):∀(i:Nat),i<l.length→∀y:Pu.Ins,
  (y.op=(Pu.cg l i).op→y.b=(Pu.cg l i).b→y.to=(Pu.cg l i).to→(insCells l).set (i*4+1) (.int .i64 y.a)=insCells (l.set i y))∧
  (y.op=(Pu.cg l i).op→y.a=(Pu.cg l i).a→y.to=(Pu.cg l i).to→(insCells l).set (i*4+2) (.int .i64 y.b)=insCells (l.set i y))∧
  (y.op=(Pu.cg l i).op→y.a=(Pu.cg l i).a→y.b=(Pu.cg l i).b→(insCells l).set (i*4+3) (.int .i64 y.to)=insCells (l.set i y))∧
  ((((insCells l).set (i*4) (.int .i64 y.op)).set (i*4+1) (.int .i64 y.a)).set (i*4+2) (.int .i64 y.b)).set (i*4+3) (.int .i64 y.to)=insCells (l.set i y):=by
 induction l with
 | nil=>intro i hi;simp at hi
 | cons x r ih=>
  intro i hi y
  cases i with
  | zero=>
   simp only [insCells,List.flatMap_cons,Pu.cg,List.getD_cons_zero,List.set_cons_zero];refine⟨fun h1 h2 h3=>?_,fun h1 h2 h3=>?_,fun h1 h2 h3=>?_,?_⟩
   ·simp [h1,h2,h3]
   ·simp [h1,h2,h3]
   ·simp [h1,h2,h3]
   ·simp
  | succ i=>
   have h:=ih i (by simpa using hi) y;have e:∀j,(i+1)*4+j=(i*4+j)+1+1+1+1:=fun j=>by omega
   have e':(i+1)*4=(i*4)+1+1+1+1:=by omega
   have g:Pu.cg (x::r) (i+1)=Pu.cg r i:=by simp [Pu.cg]
   have c:∀l':List Pu.Ins,insCells (x::l')=.int .i64 x.op::.int .i64 x.a::.int .i64 x.b::.int .i64 x.to::insCells l':=fun l'=>by simp [insCells]
   rw [g,List.set_cons_succ,c,c,e,e,e,e'];simp only [List.set_cons_succ];refine⟨fun h1 h2 h3=>?_,fun h1 h2 h3=>?_,fun h1 h2 h3=>?_,?_⟩
   ·rw [h.1 h1 h2 h3]
   ·rw [h.2.1 h1 h2 h3]
   ·rw [h.2.2.1 h1 h2 h3]
   ·rw [h.2.2.2]
theorem own_cell {w:World} {base e size n g cap:Nat} {xs:List Value} (h:w.ownsRow base e size (.slice (some ⟨g,0,none⟩) n cap) n xs) {j:Nat} {u:Value} (hj:xs[j]?=some u):w.cell? ⟨g,j,none⟩=some u:=by
 have:=h.cells (g:=g) rfl j u hj
 rw [add_eq,Nat.zero_add] at this
 exact this
end Go.Proofs.Ytmccnmgaoppogaa
