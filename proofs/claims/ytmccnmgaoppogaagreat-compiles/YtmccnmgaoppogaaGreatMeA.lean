/-
 The walks: small functions.
 Lists of numbers, rules and instructions in memory that a call has made.
 Copying rows of whatever width.
 The walks: bytes that are read. (images)
 A program that came in, copied into rows of the call's own.
-/
import Derived.Test.YtmccnmgaoppogaaGreatRows
import Derived.Test.YtmccnmgaoppogaaGreatPuA
import Derived.WalkKit
import Derived.WalkSpells
import Derived.WalkLawsBesides
import Derived.Laws.CopyOwn
import Derived.Deep.RegionHeld3
import Derived.Deep.AppendLies
import Derived.Deep.QuietTactic
import Derived.BigQuiet
import Derived.Laws.IdiomStrings
namespace Go.Proofs.YtmccnmgaoppogaaGreat
set_option maxRecDepth 100000
set_option maxHeartbeats 8000000
open Go.RowKit
theorem bn_ {w:World} (o:Obj):Below w.heap.size w (w.alloc o):=(Below.refl _ _).alloc (Nat.le_refl _) o
def insV (x:Pure.Ins):Value:=.agg #[.int .i64 x.op,.int .i64 x.a,.int .i64 x.b,.int .i64 x.to]
def ruleV (x:Pure.Rule):Value:=.agg #[.int .i64 x.emit,.int .i64 x.act,.int .i64 x.mode]
theorem ret_bool {a b:Bool} (h:a=b):Ending.returned (.bool a)=.returned (.bool b):=by rw [h]
theorem ret_int {k:IntKind} {a b:Int} (h:a=b):Ending.returned (.int k a)=.returned (.int k b):=by rw [h]
theorem below_any (a b:Int) (w:World) :
  Calls Tryz.prog 133 #[.int .i64 a,.int .i64 b] w fun e w'=>e=.returned (.bool (Pure.bel a b))∧w=w':=by
 by_cases h1:0≤a
 ·by_cases h2:a<b
  ·go_enter Tryz.func133,Tryz.ntmps133
   go_wp2;go_ret;exact⟨ret_bool (Pure.bel_true ⟨h1,h2⟩).symm,rfl⟩
  ·have hd:decide (a<b)=false:=by simpa using h2
   go_enter Tryz.func133,Tryz.ntmps133;go_wp2;go_ret;exact⟨ret_bool (Pure.bel_false (by omega)).symm,rfl⟩
 ·have hd:decide (0≤a)=false:=by simpa using h1
  go_enter Tryz.func133,Tryz.ntmps133;go_wp2;go_ret;exact⟨ret_bool (Pure.bel_false (by omega)).symm,rfl⟩
theorem followers_any (x:Pure.Ins) (i:Int) (w:World) (hi:0≤i) (hi2:i≤50000) :
  Calls Tryz.prog 138 #[.agg #[.int .i64 x.op,.int .i64 x.a,.int .i64 x.b,.int .i64 x.to],.int .i64 i] w fun e w'=>
   e=.returned (.agg #[.int .i64 (Pure.fa x i),.int .i64 (Pure.fb x)])∧Below w.heap.size w w':=by
 obtain⟨op,a,b,to⟩:=x
 have fin:∀op x y:Int,Below w.heap.size w ((w.alloc (.cells #[.int .i64 op,.int .i64 a,.int .i64 b,.int .i64 to] 61)).alloc (.cells #[.int .i64 x,.int .i64 y] 252)):=
  fun op x y=>(bn_ _).alloc (by simp) _
 by_cases h1:op=1
 ·have ea:Pure.fa ⟨op,a,b,to⟩ i=i+1:=by simp [Pure.fa,h1]
  have eb:Pure.fb ⟨op,a,b,to⟩=-1:=by simp [Pure.fb,h1]
  rw [ea,eb];clear ea eb;go_enter Tryz.func138,Tryz.ntmps138;go_wp2;exact bodyPost_ret (v:=.agg #[.int .i64 (i+1),.int .i64 (-1)]) (by simp [results,Tryz.results138,go_sem]) rfl ⟨rfl,fin _ _ _⟩
 by_cases h3:op=3
 ·have ea:Pure.fa ⟨op,a,b,to⟩ i=i+1:=by simp [Pure.fa,h3]
  have eb:Pure.fb ⟨op,a,b,to⟩=to:=by simp [Pure.fb,h3]
  rw [ea,eb];clear ea eb;go_enter Tryz.func138,Tryz.ntmps138;go_wp2;exact bodyPost_ret (v:=.agg #[.int .i64 (i+1),.int .i64 to]) (by simp [results,Tryz.results138,go_sem]) rfl ⟨rfl,fin _ _ _⟩
 by_cases h4:op=4
 ·have ea:Pure.fa ⟨op,a,b,to⟩ i=-1:=by simp [Pure.fa,h4]
  have eb:Pure.fb ⟨op,a,b,to⟩=to:=by simp [Pure.fb,h4]
  rw [ea,eb];clear ea eb;go_enter Tryz.func138,Tryz.ntmps138;go_wp2;exact bodyPost_ret (v:=.agg #[.int .i64 (-1),.int .i64 to]) (by simp [results,Tryz.results138,go_sem]) rfl ⟨rfl,fin _ _ _⟩
 ·have ea:Pure.fa ⟨op,a,b,to⟩ i=-1:=by simp [Pure.fa,h1,h3]
  have eb:Pure.fb ⟨op,a,b,to⟩=-1:=by simp [Pure.fb,h3,h4]
  rw [ea,eb];clear ea eb;go_enter Tryz.func138,Tryz.ntmps138;go_wp2;exact bodyPost_ret (v:=.agg #[.int .i64 (-1),.int .i64 (-1)]) (by simp [results,Tryz.results138,go_sem]) rfl ⟨rfl,fin _ _ _⟩
def RetB (P:Prop) (w:World) (e:Ending) (w':World):Prop:=∃b,e=.returned (.bool b)∧(b=true↔P)∧Below w.heap.size w w'
theorem retB {P:Prop} {w w':World} {b:Bool} (h:b=true↔P) (hb:Below w.heap.size w w'):RetB P w (.returned (.bool b)) w':=⟨b,rfl,h,hb⟩
theorem ruleRight_any (r:Pure.Rule) (m:Nat) (w:World) (hm1:1≤m) (hm:m≤4) :
  Calls Tryz.prog 134 #[.agg #[.int .i64 r.emit,.int .i64 r.act,.int .i64 r.mode],.int .i64 m] w (RetB (Pure.RuleOK m r) w):=by
 obtain⟨emit,act,mode⟩:=r
 have fin:∀emit act mode:Int,Below w.heap.size w (w.alloc (.cells #[.int .i64 emit,.int .i64 act,.int .i64 mode] 59)):=fun _ _ _=>bn_ _
 go_enter Tryz.func134,Tryz.ntmps134
 go_wp2
 all_goals go_ret
 all_goals refine retB ?_ (fin _ _ _)
 all_goals unfold Pure.RuleOK
 all_goals simp only [beq_iff_eq,bne_iff_ne,ne_eq,bne_eq_false_iff_eq,beq_eq_false_iff_ne,decide_eq_true_eq,Bool.false_eq_true,false_iff] at *
 all_goals first | omega | skip
 go_ways
theorem hide {p:Prop} (h:p):Hid p:=h
def intCells (l:List Int):List Value:=l.map (Value.int .i64)
def ruleCells (l:List Pure.Rule):List Value:=l.flatMap (fun r=>[.int .i64 r.emit,.int .i64 r.act,.int .i64 r.mode])
def insCells (l:List Pure.Ins):List Value:=l.flatMap (fun x=>[.int .i64 x.op,.int .i64 x.a,.int .i64 x.b,.int .i64 x.to])
theorem intCells_length (l:List Int):(intCells l).length=l.length:=by simp [intCells]
theorem ruleCells_length (l:List Pure.Rule):(ruleCells l).length=l.length*3:=by
 induction l with
 | nil=>rfl
 | cons x r ih=>unfold ruleCells at ih ⊢;rw [List.flatMap_cons,List.length_append,ih,List.length_cons];simp;omega
theorem insCells_length (l:List Pure.Ins):(insCells l).length=l.length*4:=by
 induction l with
 | nil=>rfl
 | cons x r ih=>unfold insCells at ih ⊢;rw [List.flatMap_cons,List.length_append,ih,List.length_cons];simp;omega
theorem intCells_get (l:List Int) (i:Nat) (h:i<l.length):(intCells l)[i]?=some (.int .i64 (l.getD i 0)):=by
 simp [intCells,List.getElem?_eq_getElem h]
theorem ruleCells_get (l:List Pure.Rule):∀(i:Nat),i<l.length→(ruleCells l)[3*i]?=some (.int .i64 (l.getD i Pure.r0).emit)∧(ruleCells l)[3*i+1]?=some (.int .i64 (l.getD i Pure.r0).act)∧(ruleCells l)[3*i+2]?=some (.int .i64 (l.getD i Pure.r0).mode):=by
 induction l with
 | nil=>intro i h;simp at h
 | cons x r ih=>
  intro i h
  cases i with
  | zero=>simp [ruleCells]
  | succ i=>
   have:=ih i (by simpa using h);simp only [ruleCells,List.flatMap_cons] at this ⊢
   have e:∀j,([Value.int .i64 x.emit,.int .i64 x.act,.int .i64 x.mode]++List.flatMap (fun r:Pure.Rule=>[Value.int .i64 r.emit,.int .i64 r.act,.int .i64 r.mode]) r)[3*(i+1)+j]?=(List.flatMap (fun r:Pure.Rule=>[Value.int .i64 r.emit,.int .i64 r.act,.int .i64 r.mode]) r)[3*i+j]?:=by
    intro j;rw [List.getElem?_append_right (by simp;omega)];congr 1;simp;omega
   have e0:=e 0;rw [Nat.add_zero,Nat.add_zero] at e0;rw [e0,e 1,e 2];simpa using this
theorem insCells_get (l:List Pure.Ins):∀(i:Nat),i<l.length→(insCells l)[4*i]?=some (.int .i64 (l.getD i Pure.i0).op)∧(insCells l)[4*i+1]?=some (.int .i64 (l.getD i Pure.i0).a)∧(insCells l)[4*i+2]?=some (.int .i64 (l.getD i Pure.i0).b)∧(insCells l)[4*i+3]?=some (.int .i64 (l.getD i Pure.i0).to):=by
 induction l with
 | nil=>intro i h;simp at h
 | cons x r ih=>
  intro i h
  cases i with
  | zero=>simp [insCells]
  | succ i=>
   have:=ih i (by simpa using h);simp only [insCells,List.flatMap_cons] at this ⊢
   have e:∀j,([Value.int .i64 x.op,.int .i64 x.a,.int .i64 x.b,.int .i64 x.to]++List.flatMap (fun r:Pure.Ins=>[Value.int .i64 r.op,.int .i64 r.a,.int .i64 r.b,.int .i64 r.to]) r)[4*(i+1)+j]?=(List.flatMap (fun r:Pure.Ins=>[Value.int .i64 r.op,.int .i64 r.a,.int .i64 r.b,.int .i64 r.to]) r)[4*i+j]?:=by
    intro j;rw [List.getElem?_append_right (by simp;omega)];congr 1;simp;omega
   have e0:=e 0;rw [Nat.add_zero,Nat.add_zero] at e0;rw [e0,e 1,e 2,e 3];simpa using this
theorem own_read {w:World} {base e size n:Nat} {v:Value} {xs:List Value} (h:w.ownsRow base e size v n xs) :
  ∃ao cap,v=.slice ao n cap∧n≤cap∧cap≤maxLen∧∀i,i<n*size→∃b,ao=some ⟨b,0,none⟩∧b<w.heap.size∧base≤b∧∀j u,xs[j]?=some u→w.cell? ⟨b,j,none⟩=some u:=by
 rcases h.2 with ⟨rfl,rfl⟩ | ⟨g,cap,cur,rfl,hb,hg,hn,hm,_,_⟩
 ·exact⟨none,0,rfl,lr_,Nat.zero_le _,fun i hi=>by omega⟩
 ·refine⟨some ⟨g,0,none⟩,cap,rfl,hn,hm,fun i _=>⟨g,rfl,(Array.getElem?_eq_some_iff.1 hg).1,hb,fun j u hu=>?_⟩⟩
  have:=h.cells (g:=g) rfl j u hu;by_cases hj:j=0
  ·subst hj;simpa [Addr.add] using this
  ·simpa [Addr.add,hj] using this
theorem own_below {B:Nat} {w w':World} {base e size n:Nat} {v:Value} {xs:List Value} (h:w.ownsRow base e size v n xs) (hb:Below B w w') (hB:w.heap.size≤B):w'.ownsRow base e size v n xs:=by
 refine⟨h.1,?_⟩
 rcases h.2 with hn | ⟨g,cap,cur,rfl,hb',hgg,rest⟩
 ·exact .inl hn
 ·refine .inr ⟨g,cap,cur,rfl,hb',?_,rest⟩
  have:=(Array.getElem?_eq_some_iff.1 hgg).1;rw [hb.block g (by omega)];exact hgg
theorem own_mono {w:World} {base base' e size n:Nat} {v:Value} {xs:List Value} (h:w.ownsRow base e size v n xs) (hb:base'≤base):w.ownsRow base' e size v n xs:=by
 refine⟨h.1,?_⟩
 rcases h.2 with hn | ⟨g,cap,cur,rfl,hb',rest⟩
 ·exact .inl hn
 ·exact .inr ⟨g,cap,cur,rfl,by omega,rest⟩
def Ints (w:World) (v:Value) (l:List Int):Prop:=∃ao cap,v=.slice ao l.length cap∧l.length≤cap∧cap≤9223372036854775807∧
  ∀i,i<l.length→∃b off,ao=some ⟨b,off,none⟩∧b<w.heap.size∧w.cell? ⟨b,off+i,none⟩=some (.int .i64 (Pure.ig l i))
def Rules (w:World) (v:Value) (l:List Pure.Rule):Prop:=∃ao cap,v=.slice ao l.length cap∧l.length≤cap∧cap≤9223372036854775807∧
  ∀i,i<l.length→∃b off,ao=some ⟨b,off,none⟩∧b<w.heap.size∧w.cell? ⟨b,off+i*3,none⟩=some (.int .i64 (Pure.rg l i).emit)∧w.cell? ⟨b,off+i*3+1,none⟩=some (.int .i64 (Pure.rg l i).act)∧w.cell? ⟨b,off+i*3+2,none⟩=some (.int .i64 (Pure.rg l i).mode)
def Code (w:World) (v:Value) (l:List Pure.Ins):Prop:=∃ao cap,v=.slice ao l.length cap∧l.length≤cap∧cap≤9223372036854775807∧
  ∀i,i<l.length→∃b off,ao=some ⟨b,off,none⟩∧b<w.heap.size∧w.cell? ⟨b,off+i*4,none⟩=some (.int .i64 (Pure.cg l i).op)∧w.cell? ⟨b,off+i*4+1,none⟩=some (.int .i64 (Pure.cg l i).a)∧w.cell? ⟨b,off+i*4+2,none⟩=some (.int .i64 (Pure.cg l i).b)∧w.cell? ⟨b,off+i*4+3,none⟩=some (.int .i64 (Pure.cg l i).to)
theorem Ints.read {w:World} {v:Value} {l:List Int} (h:Ints w v l):∃ao cap,v=.slice ao l.length cap∧l.length≤cap∧cap≤9223372036854775807∧
  ∀i,i<l.length→∃b off,ao=some ⟨b,off,none⟩∧b<w.heap.size∧w.cell? ⟨b,off+i,none⟩=some (.int .i64 (Pure.ig l i)):=h
theorem Rules.read {w:World} {v:Value} {l:List Pure.Rule} (h:Rules w v l):∃ao cap,v=.slice ao l.length cap∧l.length≤cap∧cap≤9223372036854775807∧
  ∀i,i<l.length→∃b off,ao=some ⟨b,off,none⟩∧b<w.heap.size∧w.cell? ⟨b,off+i*3,none⟩=some (.int .i64 (Pure.rg l i).emit)∧w.cell? ⟨b,off+i*3+1,none⟩=some (.int .i64 (Pure.rg l i).act)∧w.cell? ⟨b,off+i*3+2,none⟩=some (.int .i64 (Pure.rg l i).mode):=h
theorem Code.read {w:World} {v:Value} {l:List Pure.Ins} (h:Code w v l):∃ao cap,v=.slice ao l.length cap∧l.length≤cap∧cap≤9223372036854775807∧
  ∀i,i<l.length→∃b off,ao=some ⟨b,off,none⟩∧b<w.heap.size∧w.cell? ⟨b,off+i*4,none⟩=some (.int .i64 (Pure.cg l i).op)∧w.cell? ⟨b,off+i*4+1,none⟩=some (.int .i64 (Pure.cg l i).a)∧w.cell? ⟨b,off+i*4+2,none⟩=some (.int .i64 (Pure.cg l i).b)∧w.cell? ⟨b,off+i*4+3,none⟩=some (.int .i64 (Pure.cg l i).to):=h
theorem Ints.below {w w':World} {v:Value} {l:List Int} (h:Ints w v l) (hb:Below w.heap.size w w'):Ints w' v l:=by
 obtain⟨ao,cap,h1,h2,h3,h4⟩:=h
 refine⟨ao,cap,h1,h2,h3,fun i hi=>?_⟩
 obtain⟨b,off,e,hl,hc⟩:=h4 i hi
 have hs:=hb.size
 exact⟨b,off,e,by omega,(hb.cell (p:=⟨b,off+i,none⟩) hl).trans hc⟩
theorem Rules.below {w w':World} {v:Value} {l:List Pure.Rule} (h:Rules w v l) (hb:Below w.heap.size w w'):Rules w' v l:=by
 obtain⟨ao,cap,h1,h2,h3,h4⟩:=h
 refine⟨ao,cap,h1,h2,h3,fun i hi=>?_⟩
 obtain⟨b,off,e,hl,hc0,hc1,hc2⟩:=h4 i hi
 have hs:=hb.size
 exact⟨b,off,e,by omega,(hb.cell (p:=⟨b,_,none⟩) hl).trans hc0,(hb.cell (p:=⟨b,_,none⟩) hl).trans hc1,(hb.cell (p:=⟨b,_,none⟩) hl).trans hc2⟩
theorem Code.below {w w':World} {v:Value} {l:List Pure.Ins} (h:Code w v l) (hb:Below w.heap.size w w'):Code w' v l:=by
 obtain⟨ao,cap,h1,h2,h3,h4⟩:=h
 refine⟨ao,cap,h1,h2,h3,fun i hi=>?_⟩
 obtain⟨b,off,e,hl,hc0,hc1,hc2,hc3⟩:=h4 i hi
 have hs:=hb.size
 exact⟨b,off,e,by omega,(hb.cell (p:=⟨b,_,none⟩) hl).trans hc0,(hb.cell (p:=⟨b,_,none⟩) hl).trans hc1,(hb.cell (p:=⟨b,_,none⟩) hl).trans hc2,(hb.cell (p:=⟨b,_,none⟩) hl).trans hc3⟩
theorem own_ints {w:World} {base n:Nat} {v:Value} {l:List Int} (h:w.ownsRow base 3 1 v n (intCells l)) (hn:n=l.length):Ints w v l:=by
 subst hn
 obtain⟨ao,cap,h1,h2,h3,h4⟩:=own_read h
 unfold maxLen at h3
 refine⟨ao,cap,h1,h2,h3,fun i hi=>?_⟩
 obtain⟨b,hb,hl,_,hc⟩:=h4 i (by omega)
 refine⟨b,0,hb,hl,?_⟩
 rw [Nat.zero_add]
 exact hc i _ (intCells_get l i hi)
theorem own_rules {w:World} {base n:Nat} {v:Value} {l:List Pure.Rule} (h:w.ownsRow base 59 3 v n (ruleCells l)) (hn:n=l.length):Rules w v l:=by
 subst hn
 obtain⟨ao,cap,h1,h2,h3,h4⟩:=own_read h
 unfold maxLen at h3
 refine⟨ao,cap,h1,h2,h3,fun i hi=>?_⟩
 obtain⟨b,hb,hl,_,hc⟩:=h4 i (by omega)
 have g:=ruleCells_get l i hi
 rw [Nat.mul_comm] at g
 refine⟨b,0,hb,hl,?_⟩
 rw [Nat.zero_add]
 exact⟨hc _ _ g.1,hc _ _ g.2.1,hc _ _ g.2.2⟩
theorem own_code {w:World} {base n:Nat} {v:Value} {l:List Pure.Ins} (h:w.ownsRow base 61 4 v n (insCells l)) (hn:n=l.length):Code w v l:=by
 subst hn
 obtain⟨ao,cap,h1,h2,h3,h4⟩:=own_read h
 unfold maxLen at h3
 refine⟨ao,cap,h1,h2,h3,fun i hi=>?_⟩
 obtain⟨b,hb,hl,_,hc⟩:=h4 i (by omega)
 have g:=insCells_get l i hi
 rw [Nat.mul_comm] at g
 refine⟨b,0,hb,hl,?_⟩
 rw [Nat.zero_add]
 exact⟨hc _ _ g.1,hc _ _ g.2.1,hc _ _ g.2.2.1,hc _ _ g.2.2.2⟩
theorem bel1 {w wr w1:World} {o:Obj} (h:Below w.heap.size w wr) (h1:Below (wr.alloc o).heap.size (wr.alloc o) w1):Below w.heap.size w w1:=by
 have:=h.size
 exact (h.alloc this o).trans (h1.mono (by simp;omega))
theorem bel0 {w wr w1:World} (h:Below w.heap.size w wr) (h1:Below wr.heap.size wr w1):Below w.heap.size w w1:=h.trans (h1.mono h.size)
theorem Tryz.info59 : (Tryz.prog.info? 59).map (fun i=>(i.zero,i.size,i.bytes))=some (some (.agg #[.int .i64 0,.int .i64 0,.int .i64 0]),3,24):=by kernel_rfl
theorem Tryz.info61 : (Tryz.prog.info? 61).map (fun i=>(i.zero,i.size,i.bytes))=some (some (.agg #[.int .i64 0,.int .i64 0,.int .i64 0,.int .i64 0]),4,32):=by kernel_rfl
def Blk (w:World) (g:Nat) (t:TypeId) (xs:List Value):Prop:=w.heap[g]?=some (.cells xs.toArray t (0,0))
theorem blk_of_own {w:World} {B e size g n:Nat} {xs:List Value} (h:w.ownsRow B e size (.slice (some ⟨g,0,none⟩) n n) n xs):Blk w g e xs:=by
 rcases h.2 with ⟨h',_⟩ | ⟨g',cap,cur,h',_,hg,_,_,hcs,htake⟩
 ·simp at h'
 ·simp only [Value.slice.injEq,Option.some.injEq,Addr.mk.injEq,and_true,true_and] at h'
  obtain⟨rfl,rfl⟩:=h';have:cur.toList=xs:=by rw [←htake,List.take_of_length_le (by simp [hcs])]
  unfold Blk;rw [←this];simpa using hg
theorem copy_row (w:World) (t e size g m c:Nat) (ao:Option Addr) (xs cs:List Value) (ht:Tryz.prog.underlying t=some (.slice e)) (hs:(Tryz.prog.info? e).map (·.size)=some size)
  (hg:Blk w g e xs) (hcs:cs.length=m*size) (hfit:cs.length≤xs.length) (hsrc:0<m→∃ad,ao=some ad∧∀j v,cs[j]?=some v→w.cell? (ad.add j)=some v) (h1:∀v∈cs,v.oneCell'=true) :
  ∃w',(∀ty,(Builtin.copy_ #[t,t] ty #[.slice (some ⟨g,0,none⟩) (m+1) (m+1),.slice ao m c]).run Tryz.prog w=.ok (goInt m) w')∧Blk w' g e (cs++xs.drop cs.length)∧w.grownBy w' (some g):=by
 cases hq:Tryz.prog.info? e with
 | none=>simp [hq] at hs
 | some i=>
  have hi:i.size=size:=by simpa [hq] using hs
  have hst:=run_storeCells_at Tryz.prog g 0 e cs 0 xs.toArray w hg (by simpa using hfit) h1;have hblk:Blk (w.setRow g (cs++xs.drop cs.length).toArray) g e (cs++xs.drop cs.length):=setRow_heap w g xs.toArray _ e _ hg
  have hgr:w.grownBy (w.setRow g (cs++xs.drop cs.length).toArray) (some g):=by
   refine⟨rfl,rfl,rfl,by simp,fun k hk hne=>?_⟩;simp only [World.setRow,Array.getElem?_modify];rw [if_neg (fun h=>hne (by rw [h]))]
  refine⟨w.setRow g (cs++xs.drop cs.length).toArray,fun ty=>?_,hblk,hgr⟩;by_cases hm:0<m
  ·obtain⟨ad,rfl,hsrc'⟩:=hsrc hm
   have hl:=run_loadCells_list (P:=Tryz.prog) w ad cs hsrc';simp [Builtin.copy_,run_underlying ht,Builtin.lenOf,Builtin.firstCells,sizeOf,typeInfo,hq,hi,←hcs,hl,hst]
  ·have hm0:m=0:=by omega
   subst hm0;have hc0:cs=[]:=List.eq_nil_of_length_eq_zero (by omega);subst hc0;have hself:=setRow_self w g xs.toArray e _ hg
   cases ao with
   | none=>simp [Builtin.copy_,run_underlying ht,Builtin.lenOf,Builtin.firstCells,sizeOf,typeInfo,hq,storeCells,hself]
   | some ad=>
    have hl:=run_loadCells_list (P:=Tryz.prog) w ad [] (fun j v h=>by simp at h);simp only [List.length_nil] at hl;simp [Builtin.copy_,run_underlying ht,Builtin.lenOf,Builtin.firstCells,sizeOf,typeInfo,hq,storeCells,hl,hself]
theorem made1 (n:Nat):(madeCells (Value.int .i64 0).cells (n*1)).toList=List.replicate (n*1) (.int .i64 0):=by
 simp only [madeCells,Value.cells]
 rw [List.eq_replicate_iff]
 simp [Nat.mod_one]
theorem made3 (n:Nat):(madeCells (Value.agg #[.int .i64 0,.int .i64 0,.int .i64 0]).cells (n*3)).toList=List.replicate (n*3) (.int .i64 0):=by
 simp only [madeCells,Value.cells]
 rw [List.eq_replicate_iff]
 refine⟨by simp,fun b hb=>?_⟩
 simp only [Array.toList_map,Array.toList_range,List.mem_map] at hb
 obtain⟨i,_,rfl⟩:=hb
 have:i % 3=0∨i % 3=1∨i % 3=2:=by omega
 rcases this with h | h | h <;> simp [h]
theorem made4 (n:Nat):(madeCells (Value.agg #[.int .i64 0,.int .i64 0,.int .i64 0,.int .i64 0]).cells (n*4)).toList=List.replicate (n*4) (.int .i64 0):=by
 simp only [madeCells,Value.cells]
 rw [List.eq_replicate_iff]
 refine⟨by simp,fun b hb=>?_⟩
 simp only [Array.toList_map,Array.toList_range,List.mem_map] at hb
 obtain⟨i,_,rfl⟩:=hb
 have:i % 4=0∨i % 4=1∨i % 4=2∨i % 4=3:=by omega
 rcases this with h | h | h | h <;> simp [h]
theorem blk_cell {w:World} {g:Nat} {t:TypeId} {xs:List Value} (h:Blk w g t xs) {j:Nat} {u:Value} (hj:xs[j]?=some u):w.cell? ⟨g,j,none⟩=some u:=by
 unfold Blk at h
 simp [World.cell?,h,hj]
theorem bc_ {w:World} {g:Nat} {t:TypeId} {xs:List Value} (j:Nat) {v:Value} (h:Blk w g t xs) (e:xs[j]?=some v):w.cell? ⟨g,j,none⟩=some v:=blk_cell h e
theorem blk_frozen {w:World} {g:Nat} {t:TypeId} {xs:List Value} (h:Blk w g t xs) (j:Nat):w.frozen? ⟨g,j,none⟩=false:=by
 unfold Blk at h
 simp [World.frozen?,h]
theorem blk_lt {w:World} {g:Nat} {t:TypeId} {xs:List Value} (h:Blk w g t xs):g<w.heap.size:=(Array.getElem?_eq_some_iff.1 h).1
theorem blk_set {w:World} {g:Nat} {t:TypeId} {xs:List Value} (h:Blk w g t xs) (j:Nat) (u:Value):Blk (w.setCell ⟨g,j,none⟩ u) g t (xs.set j u):=by
 have:=heap_setCell_same w g j xs.toArray t u h
 unfold Blk
 rw [this]
 simp
theorem blk_other {w:World} {g g':Nat} {t:TypeId} {xs:List Value} (h:Blk w g t xs) (hne:g≠g') (j:Nat) (u:Value):Blk (w.setCell ⟨g',j,none⟩ u) g t xs:=by
 unfold Blk at h ⊢
 rw [Below.heap_setCell _ _ _ _ hne]
 exact h
theorem blk_alloc {w:World} {g:Nat} {t:TypeId} {xs:List Value} (h:Blk w g t xs) (o:Obj):Blk (w.alloc o) g t xs:=by
 unfold Blk
 rw [heap_alloc_old w o (blk_lt h)]
 exact h
theorem blk_grown {w w':World} {g:Nat} {row:Option Nat} {t:TypeId} {xs:List Value} (h:Blk w g t xs) (hg:w.grownBy w' row) (hne:some g≠row):Blk w' g t xs:=by
 unfold Blk
 rw [hg.block g (blk_lt h) hne]
 exact h
theorem blk_below {B:Nat} {w w':World} {g:Nat} {t:TypeId} {xs:List Value} (h:Blk w g t xs) (hb:Below B w w') (hg:g<B):Blk w' g t xs:=by
 unfold Blk
 rw [hb.block g hg]
 exact h
theorem Tryz.inff3 : (Tryz.prog.info? 3).map (fun i=>(i.zero,i.size,i.bytes))=some (some (.int .i64 0),1,8):=by kernel_rfl
theorem pair_any (a b:Int) (w:World) (ha0:0≤a) (ha:a≤255) (hb0:0≤b) (hb:b≤255) :
  Calls Tryz.prog 110 #[.int .u8 a,.int .u8 b] w fun e w'=>e=.returned (.int .i64 (a+b*256))∧w=w':=by
 go_enter Tryz.func110,Tryz.ntmps110
 go_wp2
 go_ret
 exact⟨rfl,rfl⟩
theorem wrap_in (x:Int) (h0:-9223372036854775808≤x) (h1:x≤9223372036854775807):IntKind.i64.wrap x=x:=by
 rw [IntKind.wrap_i64];omega
theorem wr_ (x:Int) (h1:-9223372036854775808≤x+1) (h2:x+1≤9223372036854775807):IntKind.i64.wrap (x+1)=x+1:=wrap_in _ h1 h2
theorem pair_any' (a b:Int) (w:World) (ha:0≤a∧a≤255) (hb:0≤b∧b≤255) :
  Calls Tryz.prog 110 #[.int .u8 a,.int .u8 b] w fun e w'=>e=.returned (.int .i64 (a+b*256))∧w'=w:=
 (pair_any a b w ha.1 ha.2 hb.1 hb.2).mono fun _ _ h=>⟨h.1,h.2.symm⟩
def bt (s:ByteArray) (n:Nat):Int:=((s.data.toList.getD n 0).toNat:Int)
theorem bt_bd (s:ByteArray) (n:Nat):0≤bt s n∧bt s n≤255:=by
 unfold bt
 have:=UInt8.toNat_lt (s.data.toList.getD n 0)
 omega
theorem idx_str (s:ByteArray) (i:Int) (n:Nat) (hi:i=n) (h:n<s.size) (w:World):(Instr.index 9 (.string s) (.int .i64 i)).run Tryz.prog w=.ok (.int .u8 (bt s n)) w:=by
 subst hi
 rw [run_index_string w _ _ _ _ Tryz.underlying9,dif_pos (by omega)]
 have e:bt s n=(((s[(n:Int).toNat]'(by simpa using h)).toNat:Nat):Int):=by
  have h':n<s.data.size:=h;unfold bt;simp only [Int.toNat_natCast];rw [List.getD_eq_getElem?_getD,List.getElem?_eq_getElem (by simpa using h')];rfl
 rw [e]
def pr (s:ByteArray) (n:Nat):Int:=bt s n+bt s (n+1)*256
def entsOf (s:ByteArray) (at0 k:Nat):List Int:=(List.range k).map (fun i=>pr s (at0+2*i))
def rulesOf (s:ByteArray) (at0 k:Nat):List Pure.Rule:=(List.range k).map (fun i=>⟨bt s (at0+3*i),bt s (at0+3*i+1),bt s (at0+3*i+2)⟩)
def codeOf (s:ByteArray) (at0 k:Nat):List Pure.Ins:=(List.range k).map (fun i=>⟨bt s (at0+5*i),bt s (at0+5*i+1),bt s (at0+5*i+2),pr s (at0+5*i+3)⟩)
theorem ents_step (s:ByteArray) (at0 k:Nat):intCells (entsOf s at0 (k+1))=intCells (entsOf s at0 k)++[.int .i64 (bt s (at0+2*k)+bt s (at0+2*k+1)*256)]:=by
 simp [entsOf,intCells,List.range_succ,pr]
theorem rules_step (s:ByteArray) (at0 k:Nat):ruleCells (rulesOf s at0 (k+1))=ruleCells (rulesOf s at0 k)++[.int .i64 (bt s (at0+3*k)),.int .i64 (bt s (at0+3*k+1)),.int .i64 (bt s (at0+3*k+2))]:=by
 unfold rulesOf ruleCells
 rw [List.range_succ,List.map_append,List.flatMap_append]
 simp
theorem code_step (s:ByteArray) (at0 k:Nat):insCells (codeOf s at0 (k+1))=insCells (codeOf s at0 k)++[.int .i64 (bt s (at0+5*k)),.int .i64 (bt s (at0+5*k+1)),.int .i64 (bt s (at0+5*k+2)),.int .i64 (bt s (at0+5*k+3)+bt s (at0+5*k+3+1)*256)]:=by
 unfold codeOf insCells
 rw [List.range_succ,List.map_append,List.flatMap_append]
 simp [pr]
theorem entsOf_len (s:ByteArray) (at0 k:Nat):(entsOf s at0 k).length=k:=by simp [entsOf]
theorem rulesOf_len (s:ByteArray) (at0 k:Nat):(rulesOf s at0 k).length=k:=by simp [rulesOf]
theorem codeOf_len (s:ByteArray) (at0 k:Nat):(codeOf s at0 k).length=k:=by simp [codeOf]
def RetRow (e size n:Nat) (xs:List Value) (w:World) (en:Ending) (w':World):Prop:=∃v,en=.returned v∧Below w.heap.size w w'∧w'.ownsRow w.heap.size e size v n xs
theorem below_step {B:Nat} {w wr w2:World} {o:Obj} {row:Option Nat} (h:Below B w wr) (hB:B≤wr.heap.size) (hg:(wr.alloc o).drew.grownBy w2 row) (hr:∀k,row=some k→B≤k):Below B w w2:=by
 refine ((h.alloc hB o).drew).grown hg ?_ hr
 show B≤(wr.alloc o).heap.size
 simp;omega
theorem cell_list3 {w:World} {xs:List Value} {t:TypeId} {n:Nat} (hn:n=w.heap.size) (j:Nat) (u:Value) (h:xs[j]?=some u):(w.alloc (.cells xs.toArray t)).cell? ((⟨n,0,none⟩:Addr).add j)=some u:=by
 subst hn
 have:(w.alloc (.cells xs.toArray t)).cell? ⟨w.heap.size,j,none⟩=some u:=by
  rw [World.cell?_alloc_mark];simpa using h
 by_cases hj:j=0
 ·subst hj;simpa [Addr.add] using this
 ·simpa [Addr.add,hj] using this
theorem readEntries_any (s:ByteArray) (w:World) (hs:s.size≤1000000) :
  Calls Tryz.prog 111 #[.string s] w (RetRow 3 1 (s.size / 2) (intCells (entsOf s 0 (s.size / 2))) w):=by
 obtain⟨i0,hi,hz0,hz1,hz2⟩:=info_parts Tryz.inff3
 go_enter Tryz.func111,Tryz.ntmps111
 go_wp2_with (at_make;refine wpList_make_own _ rfl _ _ 31 rfl w.heap.size 3 i0 (.int .i64 0) 1 Tryz.underlying31 hi hz0 hz1 _ _ _ (s.size / 2) rfl rfl (by omega) (by rw [hz2];omega) (by unfold maxLen;omega) lr_ ?_;intro w1 hown1 hgrow1)
 have hbel1:Below w.heap.size w w1:=(Below.refl _ _).grown hgrow1 lr_ (fun k h=>by cases h)
 have HO:=hide hown1
 clear hown1 hgrow1
 go_loopw [3,4] (fun f i wr=>∃(k:Nat) (f':Value),k≤s.size / 2∧i=.int .i64 ((2*k:Nat):Int)∧f'=f∧Below w.heap.size w wr∧wr.ownsRow w.heap.size 3 1 f' k (intCells (entsOf s 0 k))) (fun _ i _=>s.size+2-(intOf i).toNat)
 case atStart=>exact⟨0,_,Nat.zero_le _,rfl,rfl,hbel1,HO.out⟩
 case round=>
  clear HO hbel1;obtain⟨k,f,hk,rfl,rfl,hbel,hown⟩:=hrel;by_cases hlt:2*k+2≤s.size
  ·have hk1:k+1≤s.size / 2:=by omega
   have hst:=ents_step s 0 k;have HST:=hide hst;clear hst;rw [Nat.zero_add] at HST;generalize ha:2*k=a at *;have HA:=hide ha;clear ha;have x0:=fun w=>idx_str s (a:Int) a rfl (by omega) w
   have x1:=fun w=>idx_str s ((a:Int)+1) (a+1) (by omega) (by omega) w
   have b0:=bt_bd s a;have b1:=bt_bd s (a+1);generalize bt s a=p0 at *;generalize bt s (a+1)=p1 at *;have j0:=nz_ a;have j1:(a:Int)<(s.size:Int):=by omega
   have j2:(0:Int)≤(a:Int)+1:=by omega
   have j3:(a:Int)+1<(s.size:Int):=by omega
   have wr1:=wr_ (a:Int) (by omega) (by omega);have HO:=hide hown;clear hown
   go_wp2_with fail
   go_region_held3 (fun _=>True) (trivial) (first | (refine step_append_lies _ (by rfl) _ _ _ (by rfl) w.heap.size 3 i0 _ 1 8 Tryz.underlying31 hi hz0 hz1 hz2 rfl (by omega) f k (intCells (entsOf s 0 k)) (by rfl) ((World.ownsRow.alloc HO.out _).drew) ⟨wr.heap.size,0,none⟩ 1 1 [.int .i64 (p0+p1*256)] (by rfl) (by rfl) (World.news_of_block (cs:=#[.int .i64 (p0+p1*256)]) (t:=3) (fr:=(0,0)) (heap_alloc_new wr _)) (by simp [Value.oneCell']) (by omega) (by unfold maxLen;omega) (by omega) (by have:=hbel.size;simp;omega) (wr.heap.size+1) (by simp) ?_;intro g2 cap2 w2 hown2 hgrow2 hat2 hlt2) | (go_at_call 110;refine (pair_any _ _ _ b0.1 b0.2 b1.1 b1.2).mono ?_;rintro e w' ⟨rfl,rfl⟩))
   all_goals
    have hbel2:Below w.heap.size w w2:=below_step hbel hbel.size hgrow2 (fun k' h=>(World.ownsRow.lt HO.out k' h).1);rw [←HST.out] at hown2;clear hgrow2 hat2 hlt2 x0 x1;go_wp2
    go_roundw
    case rel=>exact⟨k+1,_,hk1,by have:=HA.out;go_num,rfl,hbel2,hown2⟩
    case measure=>simp [intOf];omega
  ·have hke:k=s.size / 2:=by omega
   subst hke;go_wp2;go_ret;exact⟨_,rfl,hbel,hown⟩
theorem add_eq (b off j:Nat):(⟨b,off,none⟩:Addr).add j=⟨b,off+j,none⟩:=by
 unfold Addr.add;split <;> simp_all
theorem Ints.src {W:World} {v:Value} {l:List Int} {ao:Option Addr} {n c:Nat} (h:Ints W v l) (hv:v=.slice ao n c):0<l.length→∃ad,ao=some ad∧∀j u,(intCells l)[j]?=some u→W.cell? (ad.add j)=some u:=by
 intro hl
 obtain⟨ao',cap,h1,_,_,h4⟩:=h
 rw [hv] at h1
 simp only [Value.slice.injEq] at h1
 obtain⟨rfl,_,_⟩:=h1
 obtain⟨b,off,rfl,_,_⟩:=h4 0 hl
 refine⟨_,rfl,fun j u hu=>?_⟩
 have hj:j<l.length:=by
  have:=(List.getElem?_eq_some_iff.1 hu).1;rw [intCells_length] at this;exact this
 obtain⟨b',off',e,_,hc⟩:=h4 j hj
 simp only [Option.some.injEq,Addr.mk.injEq,and_true] at e
 obtain⟨rfl,rfl⟩:=e
 rw [intCells_get l j hj] at hu
 rw [add_eq,hc]
 exact hu
theorem Rules.src {W:World} {v:Value} {l:List Pure.Rule} {ao:Option Addr} {n c:Nat} (h:Rules W v l) (hv:v=.slice ao n c):0<l.length→∃ad,ao=some ad∧∀j u,(ruleCells l)[j]?=some u→W.cell? (ad.add j)=some u:=by
 intro hl
 obtain⟨ao',cap,h1,_,_,h4⟩:=h
 rw [hv] at h1
 simp only [Value.slice.injEq] at h1
 obtain⟨rfl,_,_⟩:=h1
 obtain⟨b,off,rfl,_,_⟩:=h4 0 hl
 refine⟨_,rfl,fun j u hu=>?_⟩
 have hj:j / 3<l.length:=by
  have:=(List.getElem?_eq_some_iff.1 hu).1;rw [ruleCells_length] at this;omega
 obtain⟨b',off',e,_,hc0,hc1,hc2⟩:=h4 (j / 3) hj
 simp only [Option.some.injEq,Addr.mk.injEq,and_true] at e
 obtain⟨rfl,rfl⟩:=e
 have g:=ruleCells_get l (j / 3) hj
 rw [add_eq]
 have hm:j % 3=0∨j % 3=1∨j % 3=2:=by omega
 rcases hm with hm | hm | hm
 ·have e:j=3*(j / 3):=by omega
  rw [e,g.1] at hu;rw [show off+j=off+j / 3*3 from by omega,hc0];exact hu
 ·have e:j=3*(j / 3)+1:=by omega
  rw [e,g.2.1] at hu;rw [show off+j=off+j / 3*3+1 from by omega,hc1];exact hu
 ·have e:j=3*(j / 3)+2:=by omega
  rw [e,g.2.2] at hu;rw [show off+j=off+j / 3*3+2 from by omega,hc2];exact hu
theorem Code.src {W:World} {v:Value} {l:List Pure.Ins} {ao:Option Addr} {n c:Nat} (h:Code W v l) (hv:v=.slice ao n c):0<l.length→∃ad,ao=some ad∧∀j u,(insCells l)[j]?=some u→W.cell? (ad.add j)=some u:=by
 intro hl
 obtain⟨ao',cap,h1,_,_,h4⟩:=h
 rw [hv] at h1
 simp only [Value.slice.injEq] at h1
 obtain⟨rfl,_,_⟩:=h1
 obtain⟨b,off,rfl,_,_⟩:=h4 0 hl
 refine⟨_,rfl,fun j u hu=>?_⟩
 have hj:j / 4<l.length:=by
  have:=(List.getElem?_eq_some_iff.1 hu).1;rw [insCells_length] at this;omega
 obtain⟨b',off',e,_,hc0,hc1,hc2,hc3⟩:=h4 (j / 4) hj
 simp only [Option.some.injEq,Addr.mk.injEq,and_true] at e
 obtain⟨rfl,rfl⟩:=e
 have g:=insCells_get l (j / 4) hj
 rw [add_eq]
 have hm:j % 4=0∨j % 4=1∨j % 4=2∨j % 4=3:=by omega
 rcases hm with hm | hm | hm | hm
 ·have e:j=4*(j / 4):=by omega
  rw [e,g.1] at hu;rw [show off+j=off+j / 4*4 from by omega,hc0];exact hu
 ·have e:j=4*(j / 4)+1:=by omega
  rw [e,g.2.1] at hu;rw [show off+j=off+j / 4*4+1 from by omega,hc1];exact hu
 ·have e:j=4*(j / 4)+2:=by omega
  rw [e,g.2.2.1] at hu;rw [show off+j=off+j / 4*4+2 from by omega,hc2];exact hu
 ·have e:j=4*(j / 4)+3:=by omega
  rw [e,g.2.2.2] at hu;rw [show off+j=off+j / 4*4+3 from by omega,hc3];exact hu
theorem one_ints (l:List Int):∀v∈intCells l,v.oneCell'=true:=by
 intro v hv;simp only [intCells,List.mem_map] at hv;obtain⟨_,_,rfl⟩:=hv;rfl
theorem one_rules (l:List Pure.Rule):∀v∈ruleCells l,v.oneCell'=true:=by
 intro v hv;simp only [ruleCells,List.mem_flatMap,List.mem_cons,List.not_mem_nil,or_false] at hv;obtain⟨_,_,rfl | rfl | rfl⟩:=hv <;> rfl
theorem one_ins (l:List Pure.Ins):∀v∈insCells l,v.oneCell'=true:=by
 intro v hv;simp only [insCells,List.mem_flatMap,List.mem_cons,List.not_mem_nil,or_false] at hv;obtain⟨_,_,rfl | rfl | rfl | rfl⟩:=hv <;> rfl
theorem mk_copy {W w1:World} {B t e size g m c:Nat} {ao:Option Addr} {cs:List Value} {z:Value} (ht:Tryz.prog.underlying t=some (.slice e)) (hs:(Tryz.prog.info? e).map (·.size)=some size)
  (hown:w1.ownsRow B e size (.slice (some ⟨g,0,none⟩) (m+1) (m+1)) (m+1) (List.replicate ((m+1)*size) z)) (hgrow:W.grownBy w1 none) (hg:g=W.heap.size)
  (hcs:cs.length=m*size) (h1:∀v∈cs,v.oneCell'=true) (hsrc:0<m→∃ad,ao=some ad∧∀j v,cs[j]?=some v→W.cell? (ad.add j)=some v) :
  ∃w',(∀ty,(Builtin.copy_ #[t,t] ty #[.slice (some ⟨g,0,none⟩) (m+1) (m+1),.slice ao m c]).run Tryz.prog w1=.ok (goInt m) w')∧Blk w' g e (cs++List.replicate size z)∧W.grownBy w' none:=by
 obtain⟨w',h2,h3,h4⟩:=copy_row w1 t e size g m c ao _ cs ht hs (blk_of_own hown) hcs (by rw [hcs,List.length_replicate,Nat.succ_mul];omega) (fun hm=>by
  obtain⟨ad,e1,e2⟩:=hsrc hm;refine⟨ad,e1,fun j v hv=>?_⟩
  exact hgrow.cell (e2 j v hv) (by simp)) h1
 refine⟨w',h2,?_,?_⟩
 ·rw [List.drop_replicate,hcs,Nat.succ_mul,Nat.add_sub_cancel_left] at h3
  exact h3
 ·have hsz:=hgrow.size
  have hsz':=h4.size;refine⟨h4.os.trans hgrow.os,h4.tape.trans hgrow.tape,h4.output.trans hgrow.output,by omega,fun k hk _=>?_⟩;rw [h4.block k (by omega) (by simp;omega),hgrow.block k hk (by simp)]
theorem own_set {w:World} {base e size n g cap j:Nat} {xs:List Value} {u:Value} (h:w.ownsRow base e size (.slice (some ⟨g,0,none⟩) n cap) n xs):(w.setCell ⟨g,j,none⟩ u).ownsRow base e size (.slice (some ⟨g,0,none⟩) n cap) n (xs.set j u):=by
 refine⟨by rw [List.length_set];exact h.1,?_⟩
 rcases h.2 with ⟨h',_⟩ | ⟨g',cap',cur,h',hb,hg,hn,hm,hcs,htake⟩
 ·simp at h'
 ·simp only [Value.slice.injEq,Option.some.injEq,Addr.mk.injEq,and_true,true_and] at h'
  obtain⟨rfl,rfl⟩:=h';refine .inr ⟨g,cap,_,rfl,hb,heap_setCell_same w g j cur e u hg,hn,hm,by simpa using hcs,?_⟩;rw [←htake];simp [List.take_set]
theorem own_frozen {w:World} {base e size n g cap:Nat} {xs:List Value} (h:w.ownsRow base e size (.slice (some ⟨g,0,none⟩) n cap) n xs) (j:Nat):w.frozen? ⟨g,j,none⟩=false:=by
 rcases h.2 with ⟨h',_⟩ | ⟨g',cap',cur,h',hb,hg,hn,hm,hcs,htake⟩
 ·simp at h'
 ·simp only [Value.slice.injEq,Option.some.injEq,Addr.mk.injEq,and_true,true_and] at h'
  obtain⟨rfl,rfl⟩:=h';simp [World.frozen?,hg]
theorem own_base {w:World} {base e size n g cap:Nat} {xs:List Value} (h:w.ownsRow base e size (.slice (some ⟨g,0,none⟩) n cap) n xs):base≤g∧g<w.heap.size:=by
 rcases h.2 with ⟨h',_⟩ | ⟨g',cap',cur,h',hb,hg,hn,hm,hcs,htake⟩
 ·simp at h'
 ·simp only [Value.slice.injEq,Option.some.injEq,Addr.mk.injEq,and_true,true_and] at h'
  obtain⟨rfl,rfl⟩:=h';exact⟨hb,(Array.getElem?_eq_some_iff.1 hg).1⟩
theorem own_some {w:World} {base e size n:Nat} {v:Value} {xs:List Value} (h:w.ownsRow base e size v n xs) (hn:0<n):∃g cap,v=.slice (some ⟨g,0,none⟩) n cap∧n≤cap∧cap≤9223372036854775807:=by
 rcases h.2 with ⟨h',h0⟩ | ⟨g',cap',cur,h',hb,hg,hn',hm,hcs,htake⟩
 ·omega
 ·unfold maxLen at hm
  exact⟨g',cap',h',hn',hm⟩
theorem own_nil (w:World) (base e size:Nat):w.ownsRow base e size (.slice none 0 0) 0 []:=⟨by simp,.inl ⟨rfl,rfl⟩⟩
theorem insCells_set (l:List Pure.Ins):∀(i:Nat),i<l.length→∀y:Pure.Ins,
  (y.op=(Pure.cg l i).op→y.b=(Pure.cg l i).b→y.to=(Pure.cg l i).to→(insCells l).set (i*4+1) (.int .i64 y.a)=insCells (l.set i y))∧
  (y.op=(Pure.cg l i).op→y.a=(Pure.cg l i).a→y.to=(Pure.cg l i).to→(insCells l).set (i*4+2) (.int .i64 y.b)=insCells (l.set i y))∧
  (y.op=(Pure.cg l i).op→y.a=(Pure.cg l i).a→y.b=(Pure.cg l i).b→(insCells l).set (i*4+3) (.int .i64 y.to)=insCells (l.set i y))∧
  ((((insCells l).set (i*4) (.int .i64 y.op)).set (i*4+1) (.int .i64 y.a)).set (i*4+2) (.int .i64 y.b)).set (i*4+3) (.int .i64 y.to)=insCells (l.set i y):=by
 induction l with
 | nil=>intro i hi;simp at hi
 | cons x r ih=>
  intro i hi y
  cases i with
  | zero=>
   simp only [insCells,List.flatMap_cons,Pure.cg,List.getD_cons_zero,List.set_cons_zero];refine⟨fun h1 h2 h3=>?_,fun h1 h2 h3=>?_,fun h1 h2 h3=>?_,?_⟩
   ·simp [h1,h2,h3]
   ·simp [h1,h2,h3]
   ·simp [h1,h2,h3]
   ·simp
  | succ i=>
   have h:=ih i (by simpa using hi) y;have e:∀j,(i+1)*4+j=(i*4+j)+1+1+1+1:=fun j=>by omega
   have e':(i+1)*4=(i*4)+1+1+1+1:=by omega
   have g:Pure.cg (x::r) (i+1)=Pure.cg r i:=by simp [Pure.cg]
   have c:∀l':List Pure.Ins,insCells (x::l')=.int .i64 x.op::.int .i64 x.a::.int .i64 x.b::.int .i64 x.to::insCells l':=fun l'=>by simp [insCells]
   rw [g,List.set_cons_succ,c,c,e,e,e,e'];simp only [List.set_cons_succ];refine⟨fun h1 h2 h3=>?_,fun h1 h2 h3=>?_,fun h1 h2 h3=>?_,?_⟩
   ·rw [h.1 h1 h2 h3]
   ·rw [h.2.1 h1 h2 h3]
   ·rw [h.2.2.1 h1 h2 h3]
   ·rw [h.2.2.2]
theorem own_ins {w:World} {base n g cap:Nat} {l:List Pure.Ins} (h:w.ownsRow base 61 4 (.slice (some ⟨g,0,none⟩) n cap) n (insCells l)) {i:Nat} (hi:i<l.length) :
  w.cell? ⟨g,i*4,none⟩=some (.int .i64 (Pure.cg l i).op)∧w.cell? ⟨g,i*4+1,none⟩=some (.int .i64 (Pure.cg l i).a)∧w.cell? ⟨g,i*4+2,none⟩=some (.int .i64 (Pure.cg l i).b)∧w.cell? ⟨g,i*4+3,none⟩=some (.int .i64 (Pure.cg l i).to):=by
 have q:=insCells_get l i hi
 rw [Nat.mul_comm] at q
 have c:∀j u,(insCells l)[j]?=some u→w.cell? ⟨g,j,none⟩=some u:=by
  intro j u hu;have:=h.cells (g:=g) rfl j u hu;rw [add_eq,Nat.zero_add] at this;exact this
 exact⟨c _ _ q.1,c _ _ q.2.1,c _ _ q.2.2.1,c _ _ q.2.2.2⟩
def Rng (x:Int):Prop:=-9223372036854775808≤x∧x≤9223372036854775807
def InsR (l:List Pure.Ins):Prop:=∀i,i<l.length→Rng (Pure.cg l i).op∧Rng (Pure.cg l i).a∧Rng (Pure.cg l i).b∧Rng (Pure.cg l i).to
def RulesR (l:List Pure.Rule):Prop:=∀i,i<l.length→Rng (Pure.rg l i).emit∧Rng (Pure.rg l i).act∧Rng (Pure.rg l i).mode
def IntsR (l:List Int):Prop:=∀i,i<l.length→Rng (Pure.ig l i)
theorem own_cell {w:World} {base e size n g cap:Nat} {xs:List Value} (h:w.ownsRow base e size (.slice (some ⟨g,0,none⟩) n cap) n xs) {j:Nat} {u:Value} (hj:xs[j]?=some u):w.cell? ⟨g,j,none⟩=some u:=by
 have:=h.cells (g:=g) rfl j u hj
 rw [add_eq,Nat.zero_add] at this
 exact this
theorem own_ne {w:World} {base e e' size size' n n' g g' cap cap':Nat} {xs ys:List Value} (h:w.ownsRow base e size (.slice (some ⟨g,0,none⟩) n cap) n xs) (h':w.ownsRow base e' size' (.slice (some ⟨g',0,none⟩) n' cap') n' ys) (he:e≠e'):g≠g':=by
 rcases h.2 with ⟨k,_⟩ | ⟨a,b,cur,k,_,hg,_⟩
 ·simp at k
 rcases h'.2 with ⟨k',_⟩ | ⟨a',b',cur',k',_,hg',_⟩
 ·simp at k'
 simp only [Value.slice.injEq,Option.some.injEq,Addr.mk.injEq,and_true,true_and] at k k'
 obtain⟨rfl,rfl⟩:=k
 obtain⟨rfl,rfl⟩:=k'
 intro e1
 subst e1
 rw [hg] at hg'
 simp at hg'
 exact he hg'.2
end Go.Proofs.YtmccnmgaoppogaaGreat
