import Derived.Test.YtmccnmgaoppogaaGreatRows
import Derived.Test.YtmccnmgaoppogaaGreatPuA
import Derived.WalkKit
import Derived.WalkSpells
import Derived.WalkLawsBesides
import Derived.Laws.CopyOwn
import Derived.Deep.RegionHeld3
import Derived.Deep.AppendLies
import Derived.Deep.QuietTactic
import Derived.BigQuiet
import Derived.Laws.IdiomStrings
import Derived.Lib.BufferWrite
import Derived.OwnWalk
import Derived.WalkSmall
import Derived.Deep.MidRow
import Derived.Laws.AppendOwn
import Derived.Laws.Rows
namespace Go.Proofs.YtmccnmgaoppogaaGreat
open Pu
set_option linter.all false
set_option maxRecDepth 100000
set_option maxHeartbeats 8000000
open Go.RowKit
abbrev I_ (n:Int):Value:=.int .i64 n
abbrev n_:Value:=.slice none 0 0
abbrev p_ (g:Nat):Value:=.pointer (some ⟨g,0,none⟩)
abbrev s_ (g n c:Nat):Value:=.slice (some ⟨g,0,none⟩) n c
abbrev a_ (g o:Nat):Addr:=⟨g,o,none⟩
abbrev c_ (c:Array Value) (t:TypeId) (f:Nat × Nat:=(0,0)):Obj:=.cells c t f
abbrev B_ (w W:World):Prop:=Below w.heap.size w W
abbrev C_:=Calls Tryz.prog
abbrev W_:=World
abbrev gs_:=@Lib.grownBy_setCell
abbrev hn_:=@heap_alloc_new
abbrev oa_:=@World.ownsRow.alloc
abbrev ol_:=@World.ownsRow.lt
abbrev Br_:=@Below.refl
abbrev ob_:=@ownsRow_setCell_below
abbrev wa_:=@World.size_alloc
abbrev wl_:=@wpList_load_mid
abbrev wo_:=@wpList_append_own
abbrev sa_:=@step_append_lies
abbrev oc_:=@all_oneCell_toArray
abbrev wd_:=@wp_region_held_drew
abbrev br_:=@bodyPost_ret
abbrev ws_:=@wpList_store_mid
abbrev bd_:=@below_drewN
abbrev ip_:=@info_parts
def Hid (p:Prop):Prop:=p
theorem Hid.o {p:Prop} (h:Hid p):p:=h
abbrev V_:=Value
abbrev Y_:=ByteArray
variable {w w' wr:W_} {P:Program} {ops:Array Oper} {oi:Oper} {u v:V_} {base cap e fuel g n size:Nat} {listed:Array Bool} {a:Act} {xs:List V_} {l:List dY} {t:TypeId}
theorem mi (o:Obj):B_ w (w.alloc o):=(Br_ _ _).alloc (Nat.le_refl _) o
theorem bW {Q:Exit->Act->W_->Prop} {md:Region.Mode} {S:W_->Prop} (i:Nat) {l':Array Bool} {a':Act} (h:wpAnyH P md ops Q S fuel l' a' w) (hi:ops[i]?=some oi:=by rfl) (hs:Region.noSelect ops=true:=by kernel_rfl) (hf:Region.free md ops listed i=true:=by kernel_rfl) (hr:(Region.ready md ops listed).contains i=true:=by kernel_rfl) (hw:Region.wanted oi (yielded ops a.tmps)=true:=by rfl) (hy:∀w,S w->(execOp a.eval oi).run P w=.ok (.value v) w:=by (intro w hSw;(try dsimp only at hSw);go_simp;try (with_reducible rfl))) (hQ:∀c a w,Q (.panic c) (a.put oi.dst v) w->Q (.panic c) a w:=by exact fun _ _ _ h=>h) (hS:S w:=by assumption) (ha:a.put oi.dst v=a':=by ((try simp only [nU,Act.put]);first | done | rfl)) (hl:listed.setIfInBounds i true=l':=by ((try simp only [nU]);first | done | rfl)):wpAnyH P md ops Q S (fuel+1) listed a w:=wpAnyH_take hi hs hf hr hQ (.inl ⟨hw,hy⟩) hS (by rw [ha,hl];exact h)
theorem Q9 {Q:Exit->Act->W_->Prop} {md:Region.Mode} {S:W_->Prop} (i:Nat) {l':Array Bool} {a':Act} (h:wpAnyH P md ops Q S fuel l' a' w) (hi:ops[i]?=some oi:=by rfl) (hs:Region.noSelect ops=true:=by kernel_rfl) (hf:Region.free md ops listed i=true:=by kernel_rfl) (hr:(Region.ready md ops listed).contains i=true:=by kernel_rfl) (hw:Region.wanted oi (yielded ops a.tmps)=true:=by rfl) (hy:∀w,S w->(execOp a.eval oi).run P w=.ok (.value v) w:=by (intro w hSw;obtain⟨h0,h1,h2,h3,h4,h5,h6⟩:=hSw;go_simp;try (with_reducible rfl))) (hQ:∀c a w,Q (.panic c) (a.put oi.dst v) w->Q (.panic c) a w:=by exact fun _ _ _ h=>h) (hS:S w:=by assumption) (ha:a.put oi.dst v=a':=by ((try simp only [nU,Act.put]);first | done | rfl)) (hl:listed.setIfInBounds i true=l':=by ((try simp only [nU]);first | done | rfl)):wpAnyH P md ops Q S (fuel+1) listed a w:=wpAnyH_take hi hs hf hr hQ (.inl ⟨hw,hy⟩) hS (by rw [ha,hl];exact h)
theorem fq {Q:Exit->Act->W_->Prop} {md:Region.Mode} {S:W_->Prop} (i:Nat) {o:Oper} (h:∀K':Act->W_->Prop,Shut (∀a w,S w->(S w->wpAnyH P md ops Q S fuel (listed.setIfInBounds i true) a w)->K' a w)->if Region.wanted o (yielded ops a.tmps)=true then Oper.wp P o a w K' Q else K' (a.put o.dst undef) w) (hr:Region.ready md ops listed=[i]:=by kernel_rfl) (hi:ops[i]?=some o:=by rfl):wpAnyH P md ops Q S (fuel+1) listed a w:=wpAnyH_ready hr (by simp) (.cons hi h .nil)
theorem xY {Q:Exit->Act->W_->Prop} {md:Region.Mode} {S:W_->Prop} (i j:Nat) {o q:Oper} (h:∀K':Act->W_->Prop,Shut (∀a w,S w->(S w->wpAnyH P md ops Q S fuel (listed.setIfInBounds i true) a w)->K' a w)->if Region.wanted o (yielded ops a.tmps)=true then Oper.wp P o a w K' Q else K' (a.put o.dst undef) w) (h2:∀K':Act->W_->Prop,Shut (∀a w,S w->(S w->wpAnyH P md ops Q S fuel (listed.setIfInBounds j true) a w)->K' a w)->if Region.wanted q (yielded ops a.tmps)=true then Oper.wp P q a w K' Q else K' (a.put q.dst undef) w) (hr:Region.ready md ops listed=[i,j]:=by kernel_rfl) (hi:ops[i]?=some o:=by rfl) (hj:ops[j]?=some q:=by rfl):wpAnyH P md ops Q S (fuel+1) listed a w:=wpAnyH_ready hr (by simp) (.cons hi h (.cons hj h2 .nil))
theorem kR {Q:Exit->Act->W_->Prop} {md:Region.Mode} (i:Nat) (v:V_) (h:wpAny P md ops Q fuel (listed.setIfInBounds i true) (a.put oi.dst v) w) (hi:ops[i]?=some oi:=by rfl) (hs:Region.noSelect ops=true:=by kernel_rfl) (hf:Region.free md ops listed i=true:=by kernel_rfl) (hr:(Region.ready md ops listed).contains i=true:=by kernel_rfl) (hQ:∀c a w,Q (.panic c) (a.put oi.dst v) w->Q (.panic c) a w:=by exact fun _ _ _ h=>h) (hw:Region.wanted oi (yielded ops a.tmps)=true:=by rfl) (hy:∀w,(execOp a.eval oi).run P w=.ok (.value v) w:=by (intro _;go_simp)):wpAny P md ops Q (fuel+1) listed a w:=wpAny_take hi hs hf hr hQ (.inl ⟨hw,hy⟩) h
theorem uI {Q:Exit->Act->W_->Prop} {md:Region.Mode} (i:Nat) {o:Oper} (h:∀K':Act->W_->Prop,(∀a w,wpAny P md ops Q fuel (listed.setIfInBounds i true) a w->K' a w)->if Region.wanted o (yielded ops a.tmps)=true then Oper.wp P o a w K' Q else K' (a.put o.dst undef) w) (hr:Region.ready md ops listed=[i]:=by kernel_rfl) (hi:ops[i]?=some o:=by rfl):wpAny P md ops Q (fuel+1) listed a w:=wpAny_ready hr (by simp) (.cons hi h .nil)
theorem zR {a b:Bool} (h:a=b):Ending.returned (.bool a)=.returned (.bool b):=by rw [h]
theorem kY (a b:Int) (w:W_) :
  C_ 133 #[I_ a,I_ b] w fun e w'=>e=.returned (.bool (Pu.uo a b))/\w=w':=by
 by_cases h1:0<=a
 .by_cases h2:a<b
  rotate_left
  focus have hd:decide (a<b)=false:=by simpa using h2
  rotate_left
  all_goals
   go_enter Tryz.func133,Tryz.ntmps133;go_wp2;go_ret
  .exact⟨zR (Ye ⟨h1,h2⟩).symm,rfl⟩
  .exact⟨zR (Hr (by omega)).symm,rfl⟩
 .have hd:decide (0<=a)=false:=by simpa using h1
  go_enter Tryz.func133,Tryz.ntmps133;go_wp2;go_ret;exact⟨zR (Hr (by omega)).symm,rfl⟩
theorem yh (x:dY) (i:Int) (w:W_) (hi:0<=i) (hi2:i<=50000) :
  C_ 138 #[.agg #[I_ x.op,I_ x.a,I_ x.b,I_ x.bG],I_ i] w fun e w'=>
   e=.returned (.agg #[I_ (Pu.aP x i),I_ (Pu.aQ x)])/\B_ w w':=by
 obtain⟨op,a,b,bG⟩:=x
 have fin:∀op x y:Int,B_ w ((w.alloc (c_ #[I_ op,I_ a,I_ b,I_ bG] 61)).alloc (c_ #[I_ x,I_ y] 252)):=
  fun op x y=>(mi _).alloc (by simp) _
 by_cases h1:op=1
 .have ea:Pu.aP ⟨op,a,b,bG⟩ i=i+1:=by simp [Pu.aP,h1]
  have eb:Pu.aQ ⟨op,a,b,bG⟩=-1:=by simp [Pu.aQ,h1]
  rw [ea,eb];clear ea eb;go_enter Tryz.func138,Tryz.ntmps138;go_wp2;exact br_ (v:=.agg #[I_ (i+1),I_ (-1)]) (by simp [results,Tryz.results138,go_sem]) rfl ⟨rfl,fin _ _ _⟩
 by_cases h3:op=3
 .have ea:Pu.aP ⟨op,a,b,bG⟩ i=i+1:=by simp [Pu.aP,h3]
  have eb:Pu.aQ ⟨op,a,b,bG⟩=bG:=by simp [Pu.aQ,h3]
  rw [ea,eb];clear ea eb;go_enter Tryz.func138,Tryz.ntmps138;go_wp2;exact br_ (v:=.agg #[I_ (i+1),I_ bG]) (by simp [results,Tryz.results138,go_sem]) rfl ⟨rfl,fin _ _ _⟩
 by_cases h4:op=4
 focus
  have ea:Pu.aP ⟨op,a,b,bG⟩ i=-1:=by simp [Pu.aP,h4]
  have eb:Pu.aQ ⟨op,a,b,bG⟩=bG:=by simp [Pu.aQ,h4]
 rotate_left
 focus
  have ea:Pu.aP ⟨op,a,b,bG⟩ i=-1:=by simp [Pu.aP,h1,h3]
  have eb:Pu.aQ ⟨op,a,b,bG⟩=-1:=by simp [Pu.aQ,h3,h4]
 rotate_left
 all_goals
  rw [ea,eb];clear ea eb;go_enter Tryz.func138,Tryz.ntmps138;go_wp2
 .exact br_ (v:=.agg #[I_ (-1),I_ bG]) (by simp [results,Tryz.results138,go_sem]) rfl ⟨rfl,fin _ _ _⟩
 .exact br_ (v:=.agg #[I_ (-1),I_ (-1)]) (by simp [results,Tryz.results138,go_sem]) rfl ⟨rfl,fin _ _ _⟩
def zf (P:Prop) (w:W_) (e:Ending) (w':W_):Prop:=∃b,e=.returned (.bool b)/\(b=true↔P)/\B_ w w'
theorem mQ {P:Prop} {b:Bool} (h:b=true↔P) (hb:B_ w w'):zf P w (.returned (.bool b)) w':=⟨b,rfl,h,hb⟩
theorem GY (r:mJ) (m:Nat) (w:W_) (hm1:1<=m) (hm:m<=4) :
  C_ 134 #[.agg #[I_ r.emit,I_ r.act,I_ r.mode],I_ m] w (zf (tJ m r) w):=by
 obtain⟨emit,act,mode⟩:=r;have fin:∀emit act mode:Int,B_ w (w.alloc (c_ #[I_ emit,I_ act,I_ mode] 59)):=fun _ _ _=>mi _
 go_enter Tryz.func134,Tryz.ntmps134;go_wp2
 all_goals go_ret
 all_goals refine mQ ?_ (fin _ _ _)
 all_goals unfold tJ
 all_goals simp only [beq_iff_eq,bne_iff_ne,ne_eq,bne_eq_false_iff_eq,beq_eq_false_iff_ne,decide_eq_true_eq,Bool.false_eq_true,false_iff] at *
 all_goals first | omega | skip
 go_ways
theorem bK {p:Prop} (h:p):Hid p:=h
def bY (l:List Int):List V_:=l.map (Value.int .i64)
def eG (l:List mJ):List V_:=l.flatMap (fun r=>[I_ r.emit,I_ r.act,I_ r.mode])
def dC (l:List dY):List V_:=l.flatMap (fun x=>[I_ x.op,I_ x.a,I_ x.b,I_ x.bG])
theorem qO (l:List Int) (i:Nat) (h:i<l.length):(bY l)[i]?=some (I_ (l.getD i 0)):=by simp [bY,gg_ h]
theorem tZ (l:List mJ):∀(i:Nat),i<l.length->(eG l)[3*i]?=some (I_ (l.getD i Pu.aY).emit)/\(eG l)[3*i+1]?=some (I_ (l.getD i Pu.aY).act)/\(eG l)[3*i+2]?=some (I_ (l.getD i Pu.aY).mode):=by
 induction l with
 | nil=>intro i h;simp at h
 | cons x r ih=>
  intro i h
  cases i with
  | zero=>simp [eG]
  | succ i=>
   have:=ih i (by simpa using h);simp only [eG,List.flatMap_cons] at this |-
   have e:∀j,([I_ x.emit,I_ x.act,I_ x.mode]++List.flatMap (fun r:mJ=>[I_ r.emit,I_ r.act,I_ r.mode]) r)[3*(i+1)+j]?=(List.flatMap (fun r:mJ=>[I_ r.emit,I_ r.act,I_ r.mode]) r)[3*i+j]?:=by intro j;rw [ar_ (by simp;omega)];congr 1;simp;omega
   have e0:=e 0;rw [Nat.add_zero,Nat.add_zero] at e0;rw [e0,e 1,e 2];simpa using this
theorem pQ (l:List dY):∀(i:Nat),i<l.length->(dC l)[4*i]?=some (I_ (l.getD i Pu.aS).op)/\(dC l)[4*i+1]?=some (I_ (l.getD i Pu.aS).a)/\(dC l)[4*i+2]?=some (I_ (l.getD i Pu.aS).b)/\(dC l)[4*i+3]?=some (I_ (l.getD i Pu.aS).bG):=by
 induction l with
 | nil=>intro i h;simp at h
 | cons x r ih=>
  intro i h
  cases i with
  | zero=>simp [dC]
  | succ i=>
   have:=ih i (by simpa using h);simp only [dC,List.flatMap_cons] at this |-
   have e:∀j,([I_ x.op,I_ x.a,I_ x.b,I_ x.bG]++List.flatMap (fun r:dY=>[I_ r.op,I_ r.a,I_ r.b,I_ r.bG]) r)[4*(i+1)+j]?=(List.flatMap (fun r:dY=>[I_ r.op,I_ r.a,I_ r.b,I_ r.bG]) r)[4*i+j]?:=by intro j;rw [ar_ (by simp;omega)];congr 1;simp;omega
   have e0:=e 0;rw [Nat.add_zero,Nat.add_zero] at e0;rw [e0,e 1,e 2,e 3];simpa using this
theorem jT (h:w.ownsRow base e size v n xs) :
  ∃ao cap,v=.slice ao n cap/\n<=cap/\cap<=maxLen/\∀i,i<n*size->∃b,ao=some (a_ b 0)/\b<w.heap.size/\base<=b/\∀j u,xs[j]?=some u->w.cell? (a_ b j)=some u:=by
 rcases h.2 with ⟨rfl,rfl⟩ | ⟨g,cap,cur,rfl,hb,hg,hn,hm,_,_⟩
 .exact⟨none,0,rfl,di,zl_ _,fun i hi=>by omega⟩
 .refine⟨some (a_ g 0),cap,rfl,hn,hm,fun i _=>⟨g,rfl,(Array.getElem?_eq_some_iff.1 hg).1,hb,fun j u hu=>?_⟩⟩;have:=h.cells (g:=g) rfl j u hu;by_cases hj:j=0
  .subst hj;simpa [Addr.add] using this
  .simpa [Addr.add,hj] using this
theorem bU {B:Nat} (h:w.ownsRow base e size v n xs) (hb:Below B w w') (hB:w.heap.size<=B):w'.ownsRow base e size v n xs:=by
 refine⟨h.1,?_⟩;rcases h.2 with hn | ⟨g,cap,cur,rfl,hb',hgg,rest⟩
 .exact .inl hn
 .refine .inr ⟨g,cap,cur,rfl,hb',?_,rest⟩;have:=(Array.getElem?_eq_some_iff.1 hgg).1;rw [hb.block g (by omega)];exact hgg
theorem dH {base':Nat} (h:w.ownsRow base e size v n xs) (hb:base'<=base):w.ownsRow base' e size v n xs:=by
 refine⟨h.1,?_⟩;rcases h.2 with hn | ⟨g,cap,cur,rfl,hb',rest⟩
 .exact .inl hn
 .exact .inr ⟨g,cap,cur,rfl,by omega,rest⟩
def vI (w:W_) (v:V_) (l:List Int):Prop:=∃ao cap,v=.slice ao l.length cap/\l.length<=cap/\cap<=9223372036854775807/\
  ∀i,i<l.length->∃b off,ao=some (a_ b off)/\b<w.heap.size/\w.cell? (a_ b (off+i))=some (I_ (Pu.aU l i))
def qJ (w:W_) (v:V_) (l:List mJ):Prop:=∃ao cap,v=.slice ao l.length cap/\l.length<=cap/\cap<=9223372036854775807/\
  ∀i,i<l.length->∃b off,ao=some (a_ b off)/\b<w.heap.size/\w.cell? (a_ b (off+i*3))=some (I_ (Pu.rg l i).emit)/\w.cell? (a_ b (off+i*3+1))=some (I_ (Pu.rg l i).act)/\w.cell? (a_ b (off+i*3+2))=some (I_ (Pu.rg l i).mode)
def Code (w:W_) (v:V_) (l:List dY):Prop:=∃ao cap,v=.slice ao l.length cap/\l.length<=cap/\cap<=9223372036854775807/\
  ∀i,i<l.length->∃b off,ao=some (a_ b off)/\b<w.heap.size/\w.cell? (a_ b (off+i*4))=some (I_ (Pu.aO l i).op)/\w.cell? (a_ b (off+i*4+1))=some (I_ (Pu.aO l i).a)/\w.cell? (a_ b (off+i*4+2))=some (I_ (Pu.aO l i).b)/\w.cell? (a_ b (off+i*4+3))=some (I_ (Pu.aO l i).bG)
theorem vI.read {l:List Int} (h:vI w v l):∃ao cap,v=.slice ao l.length cap/\l.length<=cap/\cap<=9223372036854775807/\
  ∀i,i<l.length->∃b off,ao=some (a_ b off)/\b<w.heap.size/\w.cell? (a_ b (off+i))=some (I_ (Pu.aU l i)):=h
theorem qJ.read {l:List mJ} (h:qJ w v l):∃ao cap,v=.slice ao l.length cap/\l.length<=cap/\cap<=9223372036854775807/\
  ∀i,i<l.length->∃b off,ao=some (a_ b off)/\b<w.heap.size/\w.cell? (a_ b (off+i*3))=some (I_ (Pu.rg l i).emit)/\w.cell? (a_ b (off+i*3+1))=some (I_ (Pu.rg l i).act)/\w.cell? (a_ b (off+i*3+2))=some (I_ (Pu.rg l i).mode):=h
theorem Code.read (h:Code w v l):∃ao cap,v=.slice ao l.length cap/\l.length<=cap/\cap<=9223372036854775807/\
  ∀i,i<l.length->∃b off,ao=some (a_ b off)/\b<w.heap.size/\w.cell? (a_ b (off+i*4))=some (I_ (Pu.aO l i).op)/\w.cell? (a_ b (off+i*4+1))=some (I_ (Pu.aO l i).a)/\w.cell? (a_ b (off+i*4+2))=some (I_ (Pu.aO l i).b)/\w.cell? (a_ b (off+i*4+3))=some (I_ (Pu.aO l i).bG):=h
theorem vI.below {l:List Int} (h:vI w v l) (hb:B_ w w'):vI w' v l:=by obtain⟨ao,cap,h1,h2,h3,h4⟩:=h;refine⟨ao,cap,h1,h2,h3,fun i hi=>?_⟩;obtain⟨b,off,e,hl,hc⟩:=h4 i hi;have hs:=hb.size;exact⟨b,off,e,by omega,(hb.cell (p:=(a_ b (off+i))) hl).trans hc⟩
theorem qJ.below {l:List mJ} (h:qJ w v l) (hb:B_ w w'):qJ w' v l:=by obtain⟨ao,cap,h1,h2,h3,h4⟩:=h;refine⟨ao,cap,h1,h2,h3,fun i hi=>?_⟩;obtain⟨b,off,e,hl,hc0,hc1,hc2⟩:=h4 i hi;have hs:=hb.size;exact⟨b,off,e,by omega,(hb.cell (p:=(a_ b (_))) hl).trans hc0,(hb.cell (p:=(a_ b (_))) hl).trans hc1,(hb.cell (p:=(a_ b (_))) hl).trans hc2⟩
theorem Code.below (h:Code w v l) (hb:B_ w w'):Code w' v l:=by obtain⟨ao,cap,h1,h2,h3,h4⟩:=h;refine⟨ao,cap,h1,h2,h3,fun i hi=>?_⟩;obtain⟨b,off,e,hl,hc0,hc1,hc2,hc3⟩:=h4 i hi;have hs:=hb.size;exact⟨b,off,e,by omega,(hb.cell (p:=(a_ b (_))) hl).trans hc0,(hb.cell (p:=(a_ b (_))) hl).trans hc1,(hb.cell (p:=(a_ b (_))) hl).trans hc2,(hb.cell (p:=(a_ b (_))) hl).trans hc3⟩
theorem zM {l:List Int} (h:w.ownsRow base 3 1 v n (bY l)) (hn:n=l.length):vI w v l:=by subst hn;obtain⟨ao,cap,h1,h2,h3,h4⟩:=jT h;unfold maxLen at h3;refine⟨ao,cap,h1,h2,h3,fun i hi=>?_⟩;obtain⟨b,hb,hl,_,hc⟩:=h4 i (by omega);refine⟨b,0,hb,hl,?_⟩;rw [Nat.zero_add];exact hc i _ (qO l i hi)
theorem Bc {l:List mJ} (h:w.ownsRow base 59 3 v n (eG l)) (hn:n=l.length):qJ w v l:=by subst hn;obtain⟨ao,cap,h1,h2,h3,h4⟩:=jT h;unfold maxLen at h3;refine⟨ao,cap,h1,h2,h3,fun i hi=>?_⟩;obtain⟨b,hb,hl,_,hc⟩:=h4 i (by omega);have g:=tZ l i hi;rw [Nat.mul_comm] at g;refine⟨b,0,hb,hl,?_⟩;rw [Nat.zero_add];exact⟨hc _ _ g.1,hc _ _ g.2.1,hc _ _ g.2.2⟩
theorem EU (h:w.ownsRow base 61 4 v n (dC l)) (hn:n=l.length):Code w v l:=by subst hn;obtain⟨ao,cap,h1,h2,h3,h4⟩:=jT h;unfold maxLen at h3;refine⟨ao,cap,h1,h2,h3,fun i hi=>?_⟩;obtain⟨b,hb,hl,_,hc⟩:=h4 i (by omega);have g:=pQ l i hi;rw [Nat.mul_comm] at g;refine⟨b,0,hb,hl,?_⟩;rw [Nat.zero_add];exact⟨hc _ _ g.1,hc _ _ g.2.1,hc _ _ g.2.2.1,hc _ _ g.2.2.2⟩
theorem Gr {w1:W_} {o:Obj} (h:B_ w wr) (h1:Below (wr.alloc o).heap.size (wr.alloc o) w1):B_ w w1:=by have:=h.size;exact (h.alloc this o).trans (h1.mono (by simp;omega))
theorem iT {w1:W_} (h:B_ w wr) (h1:B_ wr w1):B_ w w1:=h.trans (h1.mono h.size)
theorem Tryz.info59 : (Tryz.prog.info? 59).map (fun i=>(i.zero,i.size,i.bytes))=some (some (.agg #[I_ 0,I_ 0,I_ 0]),3,24):=by kernel_rfl
theorem Tryz.info61 : (Tryz.prog.info? 61).map (fun i=>(i.zero,i.size,i.bytes))=some (some (.agg #[I_ 0,I_ 0,I_ 0,I_ 0]),4,32):=by kernel_rfl
def dh (w:W_) (g:Nat) (t:TypeId) (xs:List V_):Prop:=w.heap[g]?=some (c_ xs.toArray t (0,0))
theorem bM (h:dh w g t xs) {j:Nat} (hj:xs[j]?=some u):w.cell? (a_ g j)=some u:=by unfold dh at h;simp [World.cell?,h,hj]
theorem bP (j:Nat) (h:dh w g t xs) (e:xs[j]?=some u):w.cell? (a_ g j)=some u:=bM h e
theorem bL (h:dh w g t xs) (j:Nat):w.frozen? (a_ g j)=false:=by unfold dh at h;simp [World.frozen?,h]
theorem bO (h:dh w g t xs):g<w.heap.size:=(Array.getElem?_eq_some_iff.1 h).1
theorem cO (h:dh w g t xs) (j:Nat) (u:V_):dh (w.setCell (a_ g j) u) g t (xs.set j u):=by have:=heap_setCell_same w g j xs.toArray t u h;unfold dh;rw [this];simp
theorem dB {g':Nat} (h:dh w g t xs) (hne:g≠g') (j:Nat) (u:V_):dh (w.setCell (a_ g' j) u) g t xs:=by
 unfold dh at h |-
 rw [Below.heap_setCell _ _ _ _ hne];exact h
theorem dx (h:dh w g t xs) (o:Obj):dh (w.alloc o) g t xs:=by unfold dh;rw [heap_alloc_old w o (bO h)];exact h
theorem bQ {row:Option Nat} (h:dh w g t xs) (hg:w.grownBy w' row) (hne:some g≠row):dh w' g t xs:=by unfold dh;rw [hg.block g (bO h) hne];exact h
theorem bN {B:Nat} (h:dh w g t xs) (hb:Below B w w') (hg:g<B):dh w' g t xs:=by unfold dh;rw [hb.block g hg];exact h
theorem Tryz.inff3 : (Tryz.prog.info? 3).map (fun i=>(i.zero,i.size,i.bytes))=some (some (I_ 0),1,8):=by kernel_rfl
theorem EY (a b:Int) (w:W_) (ha0:0<=a) (ha:a<=255) (hb0:0<=b) (hb:b<=255) :
  C_ 110 #[.int .u8 a,.int .u8 b] w fun e w'=>e=.returned (I_ (a+b*256))/\w=w':=by
 go_enter Tryz.func110,Tryz.ntmps110;go_wp2;go_ret
 exact⟨rfl,rfl⟩
theorem oG (x:Int) (h0:-9223372036854775808<=x) (h1:x<=9223372036854775807):IntKind.i64.wrap x=x:=by rw [IntKind.wrap_i64];omega
theorem xF (x:Int) (h1:-9223372036854775808<=x:=by omega) (h2:x<=9223372036854775807:=by omega):IntKind.i64.wrap x=x:=oG _ h1 h2
theorem kg x (h1:-9223372036854775808<=x+1:=by omega) (h2:x+1<=9223372036854775807:=by omega):IntKind.i64.wrap (x+1)=x+1:=oG _ h1 h2
theorem VO (a b:Int) (w:W_) (ha:0<=a/\a<=255) (hb:0<=b/\b<=255) :
  C_ 110 #[.int .u8 a,.int .u8 b] w fun e w'=>e=.returned (I_ (a+b*256))/\w'=w:=
 (EY a b w ha.1 ha.2 hb.1 hb.2).mono fun _ _ h=>⟨h.1,h.2.symm⟩
def bt (s:Y_) (n:Nat):Int:=((s.data.toList.getD n 0).toNat:Int)
theorem iC (s:Y_) (n:Nat):0<=bt s n/\bt s n<=255:=by unfold bt;have:=UInt8.toNat_lt (s.data.toList.getD n 0);omega
theorem dU (s:Y_) (i:Int) (n:Nat) (hi:i=n) (h:n<s.size) (w:W_):(Instr.index 9 (.string s) (I_ i)).run Tryz.prog w=.ok (.int .u8 (bt s n)) w:=by
 subst hi;rw [run_index_string w _ _ _ _ Tryz.underlying9,dif_pos (by omega)];have e:bt s n=(((s[(n:Int).toNat]'(by simpa using h)).toNat:Nat):Int):=by have h':n<s.data.size:=h;unfold bt;simp only [tn_];rw [gd_,gg_ (by simpa using h')];rfl
 rw [e]
def pr (s:Y_) (n:Nat):Int:=bt s n+bt s (n+1)*256
def jX (s:Y_) (at0 k:Nat):List Int:=(List.range k).map (fun i=>pr s (at0+2*i))
def dE (s:Y_) (at0 k:Nat):List mJ:=(List.range k).map (fun i=>⟨bt s (at0+3*i),bt s (at0+3*i+1),bt s (at0+3*i+2)⟩)
def kM (s:Y_) (at0 k:Nat):List dY:=(List.range k).map (fun i=>⟨bt s (at0+5*i),bt s (at0+5*i+1),bt s (at0+5*i+2),pr s (at0+5*i+3)⟩)
theorem Ib (s:Y_) (at0 k:Nat):bY (jX s at0 (k+1))=bY (jX s at0 k)++[I_ (bt s (at0+2*k)+bt s (at0+2*k+1)*256)]:=by simp [jX,bY,List.range_succ,pr]
theorem Fq (s:Y_) (at0 k:Nat):eG (dE s at0 (k+1))=eG (dE s at0 k)++[I_ (bt s (at0+3*k)),I_ (bt s (at0+3*k+1)),I_ (bt s (at0+3*k+2))]:=by unfold dE eG;rw [List.range_succ,List.map_append,List.flatMap_append];simp
theorem H9 (s:Y_) (at0 k:Nat):dC (kM s at0 (k+1))=dC (kM s at0 k)++[I_ (bt s (at0+5*k)),I_ (bt s (at0+5*k+1)),I_ (bt s (at0+5*k+2)),I_ (bt s (at0+5*k+3)+bt s (at0+5*k+3+1)*256)]:=by unfold kM dC;rw [List.range_succ,List.map_append,List.flatMap_append];simp [pr]
theorem uT (s:Y_) (at0 k:Nat):(jX s at0 k).length=k:=by simp [jX]
theorem nk (s:Y_) (at0 k:Nat):(dE s at0 k).length=k:=by simp [dE]
theorem yB (s:Y_) (at0 k:Nat):(kM s at0 k).length=k:=by simp [kM]
def I6 (e size n:Nat) (xs:List V_) (w:W_) (en:Ending) (w':W_):Prop:=∃v,en=.returned v/\B_ w w'/\w'.ownsRow w.heap.size e size v n xs
theorem Pd {B:Nat} {w2:W_} {o:Obj} {row:Option Nat} (h:Below B w wr) (hB:B<=wr.heap.size) (hg:(wr.alloc o).drew.grownBy w2 row) (hr:∀k,row=some k->B<=k):Below B w w2:=by refine ((h.alloc hB o).drew).grown hg ?_ hr;show B<=(wr.alloc o).heap.size;simp;omega
theorem jw (hn:n=w.heap.size) (j:Nat) (u:V_) (h:xs[j]?=some u):(w.alloc (c_ xs.toArray t)).cell? (((a_ n 0):Addr).add j)=some u:=by
 subst hn;have:(w.alloc (c_ xs.toArray t)).cell? (a_ w.heap.size j)=some u:=by rw [World.cell?_alloc_mark];simpa using h
 by_cases hj:j=0
 .subst hj;simpa [Addr.add] using this
 .simpa [Addr.add,hj] using this
theorem Cr (s:Y_) (w:W_) (hs:s.size<=1000000) :
  C_ 111 #[.string s] w (I6 3 1 (s.size / 2) (bY (jX s 0 (s.size / 2))) w):=by
 obtain⟨aS,hi,hz0,hz1,hz2⟩:=ip_ Tryz.inff3;go_enter Tryz.func111,Tryz.ntmps111
 go_wp2_with (at_make;refine wpList_make_own _ rfl _ _ 31 rfl w.heap.size 3 aS (I_ 0) 1 Tryz.underlying31 hi hz0 hz1 _ _ _ (s.size / 2) rfl rfl (by omega) (by rw [hz2];omega) (by unfold maxLen;omega) di ?_;intro w1 nZ kN)
 have iE:B_ w w1:=(Br_ _ _).grown kN di (fun k h=>by cases h);have HO:=bK nZ;clear nZ kN
 go_loopw [3,4] (fun f i wr=>∃(k:Nat) (f':V_),k<=s.size / 2/\i=I_ ((2*k:Nat):Int)/\f'=f/\B_ w wr/\wr.ownsRow w.heap.size 3 1 f' k (bY (jX s 0 k))) (fun _ i _=>s.size+2-(intOf i).toNat)
 case atStart=>exact⟨0,_,zl_ _,rfl,rfl,iE,HO.o⟩
 case round=>
  clear HO iE;obtain⟨k,f,hk,rfl,rfl,hbel,fH⟩:=hrel;by_cases hlt:2*k+2<=s.size
  .have hk1:k+1<=s.size / 2:=by omega
   have hst:=Ib s 0 k;have HST:=bK hst;clear hst;rw [Nat.zero_add] at HST;generalize ha:2*k=a at *;have HA:=bK ha;clear ha;have x0:=fun w=>dU s (a:Int) a rfl (by omega) w
   have x1:=fun w=>dU s ((a:Int)+1) (a+1) (by omega) (by omega) w
   have b0:=iC s a;have b1:=iC s (a+1);generalize bt s a=p0 at *;generalize bt s (a+1)=p1 at *;have j0:=jg a;have j1:(a:Int)<s.size:=by omega
   have j2:(0:Int)<=a+1:=by omega
   have j3:(a:Int)+1<(s.size:Int):=by omega
   have wr1:=kg a;have HO:=bK fH;clear fH
   go_wp2_with fail
   go_region_held3 (fun _=>True) (trivial) (first | (refine sa_ _ (by rfl) _ _ _ (by rfl) w.heap.size 3 aS _ 1 8 Tryz.underlying31 hi hz0 hz1 hz2 rfl (by omega) f k (bY (jX s 0 k)) (by rfl) ((oa_ HO.o _).drew) (a_ wr.heap.size 0) 1 1 [I_ (p0+p1*256)] (by rfl) (by rfl) (World.news_of_block (cs:=#[I_ (p0+p1*256)]) (t:=3) (fr:=(0,0)) (hn_ wr _)) (by simp [Value.oneCell']) (by omega) (by unfold maxLen;omega) (by omega) (by have:=hbel.size;simp;omega) (wr.heap.size+1) (by simp) ?_;intro g2 fE w2 dw bS jH kV) | (go_at_call 110;refine (EY _ _ _ b0.1 b0.2 b1.1 b1.2).mono ?_;rintro e w' ⟨rfl,rfl⟩))
   all_goals
    have nY:B_ w w2:=Pd hbel hbel.size bS (fun k' h=>(ol_ HO.o k' h).1);rw [<-HST.o] at dw;clear bS jH kV x0 x1;go_wp2
    go_roundw
    case rel=>exact⟨k+1,_,hk1,by have:=HA.o;go_num,rfl,nY,dw⟩
    case measure=>simp [intOf];omega
  .have hke:k=s.size / 2:=by omega
   subst hke;go_wp2;go_ret;exact⟨_,rfl,hbel,fH⟩
theorem add_eq (b off j:Nat):((a_ b off):Addr).add j=(a_ b (off+j)):=by unfold Addr.add;split <;> simp_all
theorem JG {j:Nat} (h:w.ownsRow base e size (s_ g n cap) n xs):(w.setCell (a_ g j) u).ownsRow base e size (s_ g n cap) n (xs.set j u):=by
 refine⟨by rw [le_];exact h.1,?_⟩;rcases h.2 with ⟨h',_⟩ | ⟨g',cap',cur,h',hb,hg,hn,hm,hcs,htake⟩
 .simp at h'
 .simp only [Value.slice.injEq,Option.some.injEq,Addr.mk.injEq,and_true,true_and] at h';obtain⟨rfl,rfl⟩:=h';refine .inr ⟨g,cap,_,rfl,hb,heap_setCell_same w g j cur e u hg,hn,hm,by simpa using hcs,?_⟩;rw [<-htake];simp [List.take_set]
theorem Qp (h:w.ownsRow base e size (s_ g n cap) n xs) (j:Nat):w.frozen? (a_ g j)=false:=by
 rcases h.2 with ⟨h',_⟩ | ⟨g',cap',cur,h',hb,hg,hn,hm,hcs,htake⟩
 .simp at h'
 .simp only [Value.slice.injEq,Option.some.injEq,Addr.mk.injEq,and_true,true_and] at h';obtain⟨rfl,rfl⟩:=h';simp [World.frozen?,hg]
theorem lI (h:w.ownsRow base e size (s_ g n cap) n xs):base<=g/\g<w.heap.size:=by
 rcases h.2 with ⟨h',_⟩ | ⟨g',cap',cur,h',hb,hg,hn,hm,hcs,htake⟩
 .simp at h'
 .simp only [Value.slice.injEq,Option.some.injEq,Addr.mk.injEq,and_true,true_and] at h';obtain⟨rfl,rfl⟩:=h';exact⟨hb,(Array.getElem?_eq_some_iff.1 hg).1⟩
theorem dJ (h:w.ownsRow base e size v n xs) (hn:0<n):∃g cap,v=s_ g n cap/\n<=cap/\cap<=9223372036854775807:=by
 rcases h.2 with ⟨h',h0⟩ | ⟨g',cap',cur,h',hb,hg,hn',hm,hcs,htake⟩
 .omega
 .unfold maxLen at hm;exact⟨g',cap',h',hn',hm⟩
theorem fT (w:W_) (base e size:Nat):w.ownsRow base e size n_ 0 []:=⟨by simp,.inl ⟨rfl,rfl⟩⟩
theorem Js (l:List dY):∀(i:Nat),i<l.length->∀y:dY,
  (y.op=(Pu.aO l i).op->y.b=(Pu.aO l i).b->y.bG=(Pu.aO l i).bG->(dC l).set (i*4+1) (I_ y.a)=dC (l.set i y))/\
  (y.op=(Pu.aO l i).op->y.a=(Pu.aO l i).a->y.bG=(Pu.aO l i).bG->(dC l).set (i*4+2) (I_ y.b)=dC (l.set i y))/\
  (y.op=(Pu.aO l i).op->y.a=(Pu.aO l i).a->y.b=(Pu.aO l i).b->(dC l).set (i*4+3) (I_ y.bG)=dC (l.set i y))/\
  ((((dC l).set (i*4) (I_ y.op)).set (i*4+1) (I_ y.a)).set (i*4+2) (I_ y.b)).set (i*4+3) (I_ y.bG)=dC (l.set i y):=by
 induction l with
 | nil=>intro i hi;simp at hi
 | cons x r ih=>
  intro i hi y
  cases i with
  | zero=>
   simp only [dC,List.flatMap_cons,Pu.aO,List.getD_cons_zero,sz_];refine⟨fun h1 h2 h3=>?_,fun h1 h2 h3=>?_,fun h1 h2 h3=>?_,?_⟩
   .simp [h1,h2,h3]
   .simp [h1,h2,h3]
   .simp [h1,h2,h3]
   .simp
  | succ i=>
   have h:=ih i (by simpa using hi) y;have e:∀j,(i+1)*4+j=(i*4+j)+1+1+1+1:=fun j=>by omega
   have e':(i+1)*4=(i*4)+1+1+1+1:=by omega
   have g:Pu.aO (x::r) (i+1)=Pu.aO r i:=by simp [Pu.aO]
   have c:∀l':List dY,dC (x::l')=I_ x.op::I_ x.a::I_ x.b::I_ x.bG::dC l':=fun l'=>by simp [dC]
   rw [g,ss_,c,c,e,e,e,e'];simp only [ss_];refine⟨fun h1 h2 h3=>?_,fun h1 h2 h3=>?_,fun h1 h2 h3=>?_,?_⟩
   .rw [h.1 h1 h2 h3]
   .rw [h.2.1 h1 h2 h3]
   .rw [h.2.2.1 h1 h2 h3]
   .rw [h.2.2.2]
theorem acy (h:w.ownsRow base 61 4 (s_ g n cap) n (dC l)) {i:Nat} (hi:i<l.length) :
  w.cell? (a_ g (i*4))=some (I_ (Pu.aO l i).op)/\w.cell? (a_ g (i*4+1))=some (I_ (Pu.aO l i).a)/\w.cell? (a_ g (i*4+2))=some (I_ (Pu.aO l i).b)/\w.cell? (a_ g (i*4+3))=some (I_ (Pu.aO l i).bG):=by
 have q:=pQ l i hi;rw [Nat.mul_comm] at q;have c:∀j u,(dC l)[j]?=some u->w.cell? (a_ g j)=some u:=by intro j u hu;have:=h.cells (g:=g) rfl j u hu;rw [add_eq,Nat.zero_add] at this;exact this
 exact⟨c _ _ q.1,c _ _ q.2.1,c _ _ q.2.2.1,c _ _ q.2.2.2⟩
def Gh (x:Int):Prop:=-9223372036854775808<=x/\x<=9223372036854775807
theorem bT (h:w.ownsRow base e size (s_ g n cap) n xs) {j:Nat} (hj:xs[j]?=some u):w.cell? (a_ g j)=some u:=by have:=h.cells (g:=g) rfl j u hj;rw [add_eq,Nat.zero_add] at this;exact this
end Go.Proofs.YtmccnmgaoppogaaGreat
