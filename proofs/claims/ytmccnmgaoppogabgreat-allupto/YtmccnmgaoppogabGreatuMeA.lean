import Derived.Test.YtmccnmgaoppogabGreatRows
import Derived.Test.YtmccnmgaoppogabGreatuPuA
import Derived.WalkKit
import Derived.WalkSpells
import Derived.WalkLawsBesides
import Derived.Laws.CopyOwn
import Derived.Deep.RegionHeld3
import Derived.Deep.AppendLies
import Derived.Deep.QuietTactic
import Derived.BigQuiet
import Derived.Laws.IdiomStrings
import Derived.Lib.BufferWrite
import Derived.OwnWalk
import Derived.WalkSmall
import Derived.Deep.MidRow
import Derived.Laws.AppendOwn
import Derived.Laws.Rows
namespace Go.Proofs.YtmccnmgaoppogabGreat
open Pu
set_option linter.all false
open Go.Proofs.Tryz Tryz
set_option maxRecDepth 100000
set_option maxHeartbeats 8000000
open Go.RowKit
theorem k_{p:Prop}(h:p:=by kernel_rfl):p:=h
abbrev I_(n:Int):Value:=.int .i64 n
abbrev n_:Value:=.slice none 0 0
abbrev p_(g:Nat):Value:=.pointer (some ⟨g,0,none⟩)
abbrev s_(g n c:Nat):Value:=.slice (some ⟨g,0,none⟩) n c
abbrev a_(g o:Nat):Addr:=⟨g,o,none⟩
abbrev c_(c:Array Value)(t:TypeId)(f:Nat × Nat:=(0,0)):Obj:=.cells c t f
abbrev B_(w W:World):Prop:=Below w.heap.size w W
abbrev C_:=Calls prog
abbrev W_:=World
abbrev gs_:=@Lib.grownBy_setCell
abbrev hn_:=@heap_alloc_new
abbrev oa_:=@World.ownsRow.alloc
abbrev ol_:=@World.ownsRow.lt
abbrev Br_:=@Below.refl
abbrev ob_:=@ownsRow_setCell_below
abbrev wa_:=@World.size_alloc
abbrev wl_:=@wpList_load_mid
abbrev wo_:=@wpList_append_own
abbrev sa_:=@step_append_lies
abbrev oc_:=@all_oneCell_toArray
abbrev wd_:=@wp_region_held_drew
abbrev br_:=@bodyPost_ret
abbrev ws_:=@wpList_store_mid
abbrev bd_:=@below_drewN
abbrev ip_:=@info_parts
def Hid(p:Prop):Prop:=p
theorem Hid.o{p:Prop}(h:Hid p):p:=h
abbrev V_:=Value
abbrev Y_:=ByteArray
variable {W w w' w1 wr:W_} {P:Program} {ops:Array Oper} {oi:Oper} {u v:V_} {B base c cap e fuel g n size:Nat} {listed:Array Bool} {a:Act} {xs:List V_} {l:List ed} {t:TypeId} {ao:Option Addr}
theorem kM(o:Obj):B_ w (w.alloc o):=(Br_ _ _).alloc (Nat.le_refl _) o
theorem cB{Q:Exit->Act->W_->Prop}{md:Region.Mode}{S:W_->Prop}(i:Nat){d:Array Bool}{a':Act}(h:wpAnyH P md ops Q S fuel d a' w)(q:ops[i]?=some oi:=by rfl)(x:Region.noSelect ops=true:=by kernel_rfl)(p:Region.free md ops listed i=true:=by kernel_rfl)(s:(Region.ready md ops listed).contains i=true:=by kernel_rfl)(y:Region.wanted oi (yielded ops a.tmps)=true:=by rfl)(z:∀w,S w->(execOp a.eval oi).run P w=.ok (.value v) w:=by (intro w b;(try dsimp only at b);go_simp;try (with_reducible rfl)))(f:∀c a w,Q (.panic c) (a.put oi.dst v) w->Q (.panic c) a w:=by exact fun _ _ _ h=>h)(j:S w:=by assumption)(k:a.put oi.dst v=a':=by ((try simp only[oQ,Act.put]);first | done | rfl))(r:listed.setIfInBounds i true=d:=by ((try simp only[oQ]);first | done | rfl)):wpAnyH P md ops Q S (fuel+1) listed a w:=wpAnyH_take q x p s f (.inl ⟨y,z⟩) j (by rw[k,r];exact h)
theorem Ur{Q:Exit->Act->W_->Prop}{md:Region.Mode}{S:W_->Prop}(i:Nat){d:Array Bool}{a':Act}(h:wpAnyH P md ops Q S fuel d a' w)(q:ops[i]?=some oi:=by rfl)(x:Region.noSelect ops=true:=by kernel_rfl)(p:Region.free md ops listed i=true:=by kernel_rfl)(s:(Region.ready md ops listed).contains i=true:=by kernel_rfl)(y:Region.wanted oi (yielded ops a.tmps)=true:=by rfl)(z:∀w,S w->(execOp a.eval oi).run P w=.ok (.value v) w:=by (intro w b;obtain⟨A,C,D,E,F,G,H⟩:=b;go_simp;try (with_reducible rfl)))(f:∀c a w,Q (.panic c) (a.put oi.dst v) w->Q (.panic c) a w:=by exact fun _ _ _ h=>h)(j:S w:=by assumption)(k:a.put oi.dst v=a':=by ((try simp only[oQ,Act.put]);first | done | rfl))(r:listed.setIfInBounds i true=d:=by ((try simp only[oQ]);first | done | rfl)):wpAnyH P md ops Q S (fuel+1) listed a w:=wpAnyH_take q x p s f (.inl ⟨y,z⟩) j (by rw[k,r];exact h)
theorem fF{Q:Exit->Act->W_->Prop}{md:Region.Mode}{S:W_->Prop}(i:Nat){o:Oper}(h:∀b:Act->W_->Prop,Shut (∀a w,S w->(S w->wpAnyH P md ops Q S fuel (listed.setIfInBounds i true) a w)->b a w)->if Region.wanted o (yielded ops a.tmps)=true then Oper.wp P o a w b Q else b (a.put o.dst undef) w)(f:Region.ready md ops listed=[i]:=by kernel_rfl)(d:ops[i]?=some o:=by rfl):wpAnyH P md ops Q S (fuel+1) listed a w:=wpAnyH_ready f i_ (.cons d h .nil)
theorem yz{Q:Exit->Act->W_->Prop}{md:Region.Mode}{S:W_->Prop}(i j:Nat){o q:Oper}(h:∀b:Act->W_->Prop,Shut (∀a w,S w->(S w->wpAnyH P md ops Q S fuel (listed.setIfInBounds i true) a w)->b a w)->if Region.wanted o (yielded ops a.tmps)=true then Oper.wp P o a w b Q else b (a.put o.dst undef) w)(d:∀b:Act->W_->Prop,Shut (∀a w,S w->(S w->wpAnyH P md ops Q S fuel (listed.setIfInBounds j true) a w)->b a w)->if Region.wanted q (yielded ops a.tmps)=true then Oper.wp P q a w b Q else b (a.put q.dst undef) w)(p:Region.ready md ops listed=[i,j]:=by kernel_rfl)(f:ops[i]?=some o:=by rfl)(k:ops[j]?=some q:=by rfl):wpAnyH P md ops Q S (fuel+1) listed a w:=wpAnyH_ready p i_ (.cons f h (.cons k d .nil))
theorem lX{Q:Exit->Act->W_->Prop}{md:Region.Mode}(i:Nat)(v:V_)(h:wpAny P md ops Q fuel (listed.setIfInBounds i true) (a.put oi.dst v) w)(f:ops[i]?=some oi:=by rfl)(k:Region.noSelect ops=true:=by kernel_rfl)(d:Region.free md ops listed i=true:=by kernel_rfl)(j:(Region.ready md ops listed).contains i=true:=by kernel_rfl)(b:∀c a w,Q (.panic c) (a.put oi.dst v) w->Q (.panic c) a w:=by exact fun _ _ _ h=>h)(p:Region.wanted oi (yielded ops a.tmps)=true:=by rfl)(q:∀w,(execOp a.eval oi).run P w=.ok (.value v) w:=by (intro _;go_simp)):wpAny P md ops Q (fuel+1) listed a w:=wpAny_take f k d j b (.inl ⟨p,q⟩) h
theorem vW{Q:Exit->Act->W_->Prop}{md:Region.Mode}(i:Nat){o:Oper}(h:∀b:Act->W_->Prop,(∀a w,wpAny P md ops Q fuel (listed.setIfInBounds i true) a w->b a w)->if Region.wanted o (yielded ops a.tmps)=true then Oper.wp P o a w b Q else b (a.put o.dst undef) w)(f:Region.ready md ops listed=[i]:=by kernel_rfl)(d:ops[i]?=some o:=by rfl):wpAny P md ops Q (fuel+1) listed a w:=wpAny_ready f i_ (.cons d h .nil)
theorem A9{a b:Bool}(h:a=b):Ending.returned (.bool a)=.returned (.bool b):=by rw[h]
theorem mi(a b:Int)(w:W_) :
  C_ 120 #[I_ a,I_ b] w fun e w'=>e=.returned (.bool (Pu.qK a b))/\w=w':=by
 by_cases d:0<=a
 .by_cases f:a<b;rotate_left;have i:decide (a<b)=false:=by simpa using f
  rotate_left;all_goals
   go_enter func120,ntmps120;go_wp2;go_ret
  .exact⟨A9 (aar ⟨d,f⟩).symm,rfl⟩
  .exact⟨A9 (Jh o_).symm,rfl⟩
 .have i:decide (0<=a)=false:=by simpa using d
  go_enter func120,ntmps120;go_wp2;go_ret;exact⟨A9 (Jh o_).symm,rfl⟩
theorem zu(x:ed)(i:Int)(w:W_)(r:0<=i)(q:i<=50000) :
  C_ 125 #[.agg #[I_ x.op,I_ x.a,I_ x.b,I_ x.bH],I_ i] w fun e w'=>
   e=.returned (.agg #[I_ (Pu.aP x i),I_ (Pu.aQ x)])/\B_ w w':=by
 obtain⟨d,a,b,bH⟩:=x;have fin:∀d x y:Int,B_ w ((w.alloc (c_ #[I_ d,I_ a,I_ b,I_ bH] 50)).alloc (c_ #[I_ x,I_ y] 237)):=
  fun d x y=>(kM _).alloc i_ _
 by_cases k:d=1
 .have f:Pu.aP ⟨d,a,b,bH⟩ i=i+1:=by simp[Pu.aP,k]
  have eb:Pu.aQ ⟨d,a,b,bH⟩=-1:=by simp[Pu.aQ,k]
  rw[f,eb];clear f eb;go_enter func125,ntmps125;go_wp2;exact br_ (v:=.agg #[I_ (i+1),I_ (-1)]) (by simp[results,results125,go_sem]) rfl ⟨rfl,fin _ _ _⟩
 by_cases j:d=3
 .have f:Pu.aP ⟨d,a,b,bH⟩ i=i+1:=by simp[Pu.aP,j]
  have eb:Pu.aQ ⟨d,a,b,bH⟩=bH:=by simp[Pu.aQ,j]
  rw[f,eb];clear f eb;go_enter func125,ntmps125;go_wp2;exact br_ (v:=.agg #[I_ (i+1),I_ bH]) (by simp[results,results125,go_sem]) rfl ⟨rfl,fin _ _ _⟩
 by_cases p:d=4;have f:Pu.aP ⟨d,a,b,bH⟩ i=-1:=by simp[Pu.aP,p]
 have eb:Pu.aQ ⟨d,a,b,bH⟩=bH:=by simp[Pu.aQ,p]
 rotate_left;have f:Pu.aP ⟨d,a,b,bH⟩ i=-1:=by simp[Pu.aP,k,j]
 have eb:Pu.aQ ⟨d,a,b,bH⟩=-1:=by simp[Pu.aQ,j,p]
 rotate_left;all_goals
  rw[f,eb];clear f eb;go_enter func125,ntmps125;go_wp2
 .exact br_ (v:=.agg #[I_ (-1),I_ bH]) (by simp[results,results125,go_sem]) rfl ⟨rfl,fin _ _ _⟩
 .exact br_ (v:=.agg #[I_ (-1),I_ (-1)]) (by simp[results,results125,go_sem]) rfl ⟨rfl,fin _ _ _⟩
def Ai(P:Prop)(w:W_)(e:Ending)(w':W_):Prop:=∃b,e=.returned (.bool b)/\(b=true↔P)/\B_ w w'
theorem nU{P:Prop}{b:Bool}(h:b=true↔P)(d:B_ w w'):Ai P w (.returned (.bool b)) w':=⟨b,rfl,h,d⟩
theorem IV(r:mg)(m:Nat)(w:W_)(f:1<=m)(i:m<=4) :
  Calls prog 121 #[.agg #[I_ r.emit,I_ r.act,I_ r.mode],I_ m] w (Ai (uM m r) w):=by
 obtain⟨b,d,mode⟩:=r;have fin:∀b d mode:Int,B_ w (w.alloc (c_ #[I_ b,I_ d,I_ mode] 48)):=fun _ _ _=>kM _;go_in;go_wp2;all_goals go_ret
 all_goals refine nU ?_ (fin _ _ _)
 all_goals unfold uM
 all_goals simp only[beq_iff_eq,bne_iff_ne,ne_eq,bne_eq_false_iff_eq,beq_eq_false_iff_ne,decide_eq_true_eq,Bool.false_eq_true,false_iff]at *
 all_goals first | omega | skip
 go_ways
theorem bL{p:Prop}(h:p):Hid p:=h
def bY(l:List Int):List V_:=l.map (Value.int .i64)
def dP(l:List mg):List V_:=l.flatMap (fun r=>[I_ r.emit,I_ r.act,I_ r.mode])
def dw(l:List ed):List V_:=l.flatMap (fun x=>[I_ x.op,I_ x.a,I_ x.b,I_ x.bH])
theorem kY(l:List Int):(bY l).length=l.length:=by simp[bY]
theorem gY(l:List mg):(dP l).length=l.length*3:=by
 induction l with
 | nil=>rfl
 | cons x r b=>unfold dP at b |-;rw[List.flatMap_cons,la_,b,lc_];simp;omega
theorem fT(l:List ed):(dw l).length=l.length*4:=by
 induction l with
 | nil=>rfl
 | cons x r b=>unfold dw at b |-;rw[List.flatMap_cons,la_,b,lc_];simp;omega
theorem oo(l:List Int)(i:Nat)(h:i<l.length):(bY l)[i]?=some (I_ (l.getD i 0)):=by simp[bY,gg_ h]
theorem pz(l:List mg):∀(i:Nat),i<l.length->(dP l)[3*i]?=some (I_ (l.getD i Pu.aY).emit)/\(dP l)[3*i+1]?=some (I_ (l.getD i Pu.aY).act)/\(dP l)[3*i+2]?=some (I_ (l.getD i Pu.aY).mode):=by
 induction l with
 | nil=>intro i h;simp at h
 | cons x r d=>
  intro i h;cases i with
  | zero=>simp[dP]
  | succ i=>
   have:=d i (by simpa using h);simp only[dP,List.flatMap_cons]at this |-
   have e:∀j,([I_ x.emit,I_ x.act,I_ x.mode]++List.flatMap (fun r:mg=>[I_ r.emit,I_ r.act,I_ r.mode]) r)[3*(i+1)+j]?=(List.flatMap (fun r:mg=>[I_ r.emit,I_ r.act,I_ r.mode]) r)[3*i+j]?:=by intro j;rw[ar_ (by simp;omega)];congr 1;simp;omega
   have b:=e 0;rw[Nat.add_zero,Nat.add_zero]at b;rw[b,e 1,e 2];simpa using this
theorem ng(l:List ed):∀(i:Nat),i<l.length->(dw l)[4*i]?=some (I_ (l.getD i Pu.aS).op)/\(dw l)[4*i+1]?=some (I_ (l.getD i Pu.aS).a)/\(dw l)[4*i+2]?=some (I_ (l.getD i Pu.aS).b)/\(dw l)[4*i+3]?=some (I_ (l.getD i Pu.aS).bH):=by
 induction l with
 | nil=>intro i h;simp at h
 | cons x r d=>
  intro i h;cases i with
  | zero=>simp[dw]
  | succ i=>
   have:=d i (by simpa using h);simp only[dw,List.flatMap_cons]at this |-
   have e:∀j,([I_ x.op,I_ x.a,I_ x.b,I_ x.bH]++List.flatMap (fun r:ed=>[I_ r.op,I_ r.a,I_ r.b,I_ r.bH]) r)[4*(i+1)+j]?=(List.flatMap (fun r:ed=>[I_ r.op,I_ r.a,I_ r.b,I_ r.bH]) r)[4*i+j]?:=by intro j;rw[ar_ (by simp;omega)];congr 1;simp;omega
   have b:=e 0;rw[Nat.add_zero,Nat.add_zero]at b;rw[b,e 1,e 2,e 3];simpa using this
theorem iO(h:w.ownsRow base e size v n xs) :
  ∃ao cap,v=.slice ao n cap/\n<=cap/\cap<=maxLen/\∀i,i<n*size->∃b,ao=some (a_ b 0)/\b<w.heap.size/\base<=b/\∀j u,xs[j]?=some u->w.cell? (a_ b j)=some u:=by
 rcases h.2 with ⟨rfl,rfl⟩ | ⟨g,cap,f,rfl,k,p,r,q,_,_⟩
 .exact⟨none,0,rfl,dF,zl_ _,fun i d=>o_⟩
 .refine⟨some (a_ g 0),cap,rfl,r,q,fun i _=>⟨g,rfl,(Array.getElem?_eq_some_iff.1 p).1,k,fun j u s=>?_⟩⟩;have:=h.cells (g:=g) rfl j u s;by_cases d:j=0
  .subst d;simpa [Addr.add]using this
  .simpa [Addr.add,d]using this
theorem bW(h:w.ownsRow base e size v n xs)(b:Below B w w')(d:w.heap.size<=B):w'.ownsRow base e size v n xs:=by
 refine⟨h.1,?_⟩;rcases h.2 with hn | ⟨g,cap,cur,rfl,hb',hgg,rest⟩
 .exact .inl hn
 .refine .inr ⟨g,cap,cur,rfl,hb',?_,rest⟩;have:=(Array.getElem?_eq_some_iff.1 hgg).1;rw[b.block g o_];exact hgg
theorem dH{base':Nat}(h:w.ownsRow base e size v n xs)(b:base'<=base):w.ownsRow base' e size v n xs:=by
 refine⟨h.1,?_⟩;rcases h.2 with hn | ⟨g,cap,cur,rfl,hb',rest⟩
 .exact .inl hn
 .exact .inr ⟨g,cap,cur,rfl,o_,rest⟩
def om(w:W_)(v:V_)(l:List Int):Prop:=∃ao cap,v=.slice ao l.length cap/\l.length<=cap/\cap<=9223372036854775807/\
  ∀i,i<l.length->∃b d,ao=some (a_ b d)/\b<w.heap.size/\w.cell? (a_ b (d+i))=some (I_ (Pu.aU l i))
def jX(w:W_)(v:V_)(l:List mg):Prop:=∃ao cap,v=.slice ao l.length cap/\l.length<=cap/\cap<=9223372036854775807/\
  ∀i,i<l.length->∃b d,ao=some (a_ b d)/\b<w.heap.size/\w.cell? (a_ b (d+i*3))=some (I_ (Pu.rg l i).emit)/\w.cell? (a_ b (d+i*3+1))=some (I_ (Pu.rg l i).act)/\w.cell? (a_ b (d+i*3+2))=some (I_ (Pu.rg l i).mode)
def Code(w:W_)(v:V_)(l:List ed):Prop:=∃ao cap,v=.slice ao l.length cap/\l.length<=cap/\cap<=9223372036854775807/\
  ∀i,i<l.length->∃b d,ao=some (a_ b d)/\b<w.heap.size/\w.cell? (a_ b (d+i*4))=some (I_ (Pu.aO l i).op)/\w.cell? (a_ b (d+i*4+1))=some (I_ (Pu.aO l i).a)/\w.cell? (a_ b (d+i*4+2))=some (I_ (Pu.aO l i).b)/\w.cell? (a_ b (d+i*4+3))=some (I_ (Pu.aO l i).bH)
theorem om.read{l:List Int}(h:om w v l):∃ao cap,v=.slice ao l.length cap/\l.length<=cap/\cap<=9223372036854775807/\
  ∀i,i<l.length->∃b d,ao=some (a_ b d)/\b<w.heap.size/\w.cell? (a_ b (d+i))=some (I_ (Pu.aU l i)):=h
theorem jX.read{l:List mg}(h:jX w v l):∃ao cap,v=.slice ao l.length cap/\l.length<=cap/\cap<=9223372036854775807/\
  ∀i,i<l.length->∃b d,ao=some (a_ b d)/\b<w.heap.size/\w.cell? (a_ b (d+i*3))=some (I_ (Pu.rg l i).emit)/\w.cell? (a_ b (d+i*3+1))=some (I_ (Pu.rg l i).act)/\w.cell? (a_ b (d+i*3+2))=some (I_ (Pu.rg l i).mode):=h
theorem Code.read(h:Code w v l):∃ao cap,v=.slice ao l.length cap/\l.length<=cap/\cap<=9223372036854775807/\
  ∀i,i<l.length->∃b d,ao=some (a_ b d)/\b<w.heap.size/\w.cell? (a_ b (d+i*4))=some (I_ (Pu.aO l i).op)/\w.cell? (a_ b (d+i*4+1))=some (I_ (Pu.aO l i).a)/\w.cell? (a_ b (d+i*4+2))=some (I_ (Pu.aO l i).b)/\w.cell? (a_ b (d+i*4+3))=some (I_ (Pu.aO l i).bH):=h
theorem om.below{l:List Int}(h:om w v l)(f:B_ w w'):om w' v l:=by obtain⟨ao,cap,j,k,q,r⟩:=h;refine⟨ao,cap,j,k,q,fun i x=>?_⟩;obtain⟨b,d,e,y,s⟩:=r i x;have z:=f.size;exact⟨b,d,e,o_,(f.cell (p:=(a_ b (d+i))) y).trans s⟩
theorem jX.below{l:List mg}(h:jX w v l)(d:B_ w w'):jX w' v l:=by obtain⟨ao,cap,s,x,y,z⟩:=h;refine⟨ao,cap,s,x,y,fun i A=>?_⟩;obtain⟨b,r,e,q,f,j,k⟩:=z i A;have C:=d.size;exact⟨b,r,e,o_,(d.cell (p:=(a_ b (_))) q).trans f,(d.cell (p:=(a_ b (_))) q).trans j,(d.cell (p:=(a_ b (_))) q).trans k⟩
theorem Code.below(h:Code w v l)(d:B_ w w'):Code w' v l:=by obtain⟨ao,cap,x,y,z,A⟩:=h;refine⟨ao,cap,x,y,z,fun i C=>?_⟩;obtain⟨b,s,e,f,j,k,q,r⟩:=A i C;have D:=d.size;exact⟨b,s,e,o_,(d.cell (p:=(a_ b (_))) f).trans j,(d.cell (p:=(a_ b (_))) f).trans k,(d.cell (p:=(a_ b (_))) f).trans q,(d.cell (p:=(a_ b (_))) f).trans r⟩
theorem vQ{l:List Int}(h:w.ownsRow base 3 1 v n (bY l))(x:n=l.length):om w v l:=by subst x;obtain⟨ao,cap,f,j,d,k⟩:=iO h;unfold maxLen at d;refine⟨ao,cap,f,j,d,fun i r=>?_⟩;obtain⟨b,p,s,_,q⟩:=k i o_;refine⟨b,0,p,s,?_⟩;rw[Nat.zero_add];exact q i _ (oo l i r)
theorem vU{l:List mg}(h:w.ownsRow base 48 3 v n (dP l))(x:n=l.length):jX w v l:=by subst x;obtain⟨ao,cap,j,k,f,p⟩:=iO h;unfold maxLen at f;refine⟨ao,cap,j,k,f,fun i r=>?_⟩;obtain⟨b,q,s,_,d⟩:=p i o_;have g:=pz l i r;rw[Nat.mul_comm]at g;refine⟨b,0,q,s,?_⟩;rw[Nat.zero_add];exact⟨d _ _ g.1,d _ _ g.2.1,d _ _ g.2.2⟩
theorem yo(h:w.ownsRow base 50 4 v n (dw l))(x:n=l.length):Code w v l:=by subst x;obtain⟨ao,cap,j,k,f,p⟩:=iO h;unfold maxLen at f;refine⟨ao,cap,j,k,f,fun i r=>?_⟩;obtain⟨b,q,s,_,d⟩:=p i o_;have g:=ng l i r;rw[Nat.mul_comm]at g;refine⟨b,0,q,s,?_⟩;rw[Nat.zero_add];exact⟨d _ _ g.1,d _ _ g.2.1,d _ _ g.2.2.1,d _ _ g.2.2.2⟩
theorem zH{o:Obj}(h:B_ w wr)(b:Below (wr.alloc o).heap.size (wr.alloc o) w1):B_ w w1:=by have:=h.size;exact (h.alloc this o).trans (b.mono (by simp;omega))
theorem ja(h:B_ w wr)(b:B_ wr w1):B_ w w1:=h.trans (b.mono h.size)
theorem Tryz.info48 : (prog.info? 48).map (fun i=>(i.zero,i.size,i.bytes))=some (some (.agg #[I_ 0,I_ 0,I_ 0]),3,24):=k_
theorem Tryz.info50 : (prog.info? 50).map (fun i=>(i.zero,i.size,i.bytes))=some (some (.agg #[I_ 0,I_ 0,I_ 0,I_ 0]),4,32):=k_
def dh(w:W_)(g:Nat)(t:TypeId)(xs:List V_):Prop:=w.heap[g]?=some (c_ xs.toArray t (0,0))
theorem Ro(h:w.ownsRow B e size (s_ g n n) n xs):dh w g e xs:=by
 rcases h.2 with ⟨d,_⟩ | ⟨k,cap,f,d,_,j,_,_,i,b⟩
 .simp at d
 .simp only[Value.slice.injEq,Option.some.injEq,Addr.mk.injEq,and_true,true_and]at d;obtain⟨rfl,rfl⟩:=d;have:f.toList=xs:=by rw[<-b,List.take_of_length_le (by simp[i])]
  unfold dh;rw[<-this];simpa using j
theorem aaF(w:W_)(t e size g m c:Nat)(ao:Option Addr)(xs cs:List V_)(C:prog.underlying t=some (.slice e))(D:(prog.info? e).map (·.size)=some size)
  (x:dh w g e xs) (s:cs.length=m*size) (p:cs.length<=xs.length) (q:0<m->∃d,ao=some d/\∀j v,cs[j]?=some v->w.cell? (d.add j)=some v) (F:∀v∈cs,v.oneCell'=true) :
  ∃w',(∀E,(Builtin.copy_ #[t,t] E #[s_ g (m+1) (m+1),.slice ao m c]).run prog w=.ok (goInt m) w')/\dh w' g e (cs++xs.drop cs.length)/\w.grownBy w' (some g):=by
 cases hq:prog.info? e with
 | none=>simp[hq]at D
 | some i=>
  have G:i.size=size:=by simpa [hq]using D
  have A:=run_storeCells_at prog g 0 e cs 0 xs.toArray w x (by simpa using p) F;have f:dh (w.setRow g (cs++xs.drop cs.length).toArray) g e (cs++xs.drop cs.length):=setRow_heap w g xs.toArray _ e _ x;have y:w.grownBy (w.setRow g (cs++xs.drop cs.length).toArray) (some g):=by refine⟨rfl,rfl,rfl,i_,fun k r b=>?_⟩;simp only[World.setRow,Array.getElem?_modify];rw[if_neg (fun h=>b (by rw[h]))]
  refine⟨w.setRow g (cs++xs.drop cs.length).toArray,fun E=>?_,f,y⟩;by_cases H:0<m
  .obtain⟨d,rfl,b⟩:=q H;have k:=run_loadCells_list (P:=prog) w d cs b;simp[Builtin.copy_,run_underlying C,Builtin.lenOf,Builtin.firstCells,sizeOf,typeInfo,hq,G,<-s,k,A]
  .have z:m=0:=o_;subst z;have r:cs=[]:=List.eq_nil_of_length_eq_zero o_;subst r;have b:=setRow_self w g xs.toArray e _ x;cases ao with
   | none=>simp[Builtin.copy_,run_underlying C,Builtin.lenOf,Builtin.firstCells,sizeOf,typeInfo,hq,storeCells,b]
   | some d=>have k:=run_loadCells_list (P:=prog) w d [] (fun j v h=>by simp at h);simp only[ln_]at k;simp[Builtin.copy_,run_underlying C,Builtin.lenOf,Builtin.firstCells,sizeOf,typeInfo,hq,storeCells,k,b]
theorem ajY(n:Nat):(madeCells (I_ 0).cells (n*1)).toList=List.replicate (n*1) (I_ 0):=by simp only[madeCells,Value.cells];rw[List.eq_replicate_iff];simp[Nat.mod_one]
theorem ajZ(n:Nat):(madeCells (Value.agg #[I_ 0,I_ 0,I_ 0]).cells (n*3)).toList=List.replicate (n*3) (I_ 0):=by
 simp only[madeCells,Value.cells];rw[List.eq_replicate_iff];refine⟨i_,fun b d=>?_⟩;simp only[Array.toList_map,Array.toList_range,List.mem_map]at d;obtain⟨i,_,rfl⟩:=d;have:i % 3=0\/i % 3=1\/i % 3=2:=o_;rcases this with h | h | h <;> simp[h]
theorem aj0(n:Nat):(madeCells (Value.agg #[I_ 0,I_ 0,I_ 0,I_ 0]).cells (n*4)).toList=List.replicate (n*4) (I_ 0):=by
 simp only[madeCells,Value.cells];rw[List.eq_replicate_iff];refine⟨i_,fun b d=>?_⟩;simp only[Array.toList_map,Array.toList_range,List.mem_map]at d;obtain⟨i,_,rfl⟩:=d;have:i % 4=0\/i % 4=1\/i % 4=2\/i % 4=3:=o_;rcases this with h | h | h | h <;> simp[h]
theorem bN(h:dh w g t xs){j:Nat}(b:xs[j]?=some u):w.cell? (a_ g j)=some u:=by unfold dh at h;simp[World.cell?,h,b]
theorem bQ(j:Nat)(h:dh w g t xs)(e:xs[j]?=some u):w.cell? (a_ g j)=some u:=bN h e
theorem bM(h:dh w g t xs)(j:Nat):w.frozen? (a_ g j)=false:=by unfold dh at h;simp[World.frozen?,h]
theorem bP(h:dh w g t xs):g<w.heap.size:=(Array.getElem?_eq_some_iff.1 h).1
theorem cK(h:dh w g t xs)(j:Nat)(u:V_):dh (w.setCell (a_ g j) u) g t (xs.set j u):=by have:=heap_setCell_same w g j xs.toArray t u h;unfold dh;rw[this];simp
theorem bU{d:Nat}(h:dh w g t xs)(b:g≠d)(j:Nat)(u:V_):dh (w.setCell (a_ d j) u) g t xs:=by
 unfold dh at h |-
 rw[Below.heap_setCell _ _ _ _ b];exact h
theorem cO(h:dh w g t xs)(o:Obj):dh (w.alloc o) g t xs:=by unfold dh;rw[heap_alloc_old w o (bP h)];exact h
theorem bR{row:Option Nat}(h:dh w g t xs)(d:w.grownBy w' row)(b:some g≠row):dh w' g t xs:=by unfold dh;rw[d.block g (bP h) b];exact h
theorem bO(h:dh w g t xs)(b:Below B w w')(d:g<B):dh w' g t xs:=by unfold dh;rw[b.block g d];exact h
theorem add_eq(b d j:Nat):((a_ b d):Addr).add j=(a_ b (d+j)):=by unfold Addr.add;split <;> simp_all
theorem om.src{l:List Int}(h:om W v l)(y:v=.slice ao n c):0<l.length->∃i,ao=some i/\∀j u,(bY l)[j]?=some u->W.cell? (i.add j)=some u:=by
 intro x;obtain⟨r,cap,d,_,_,k⟩:=h;rw[y]at d;simp only[Value.slice.injEq]at d;obtain⟨rfl,_,_⟩:=d;obtain⟨b,z,rfl,_,_⟩:=k 0 x;refine⟨_,rfl,fun j u f=>?_⟩;have p:j<l.length:=by have:=(ge_.1 f).1;rw[kY]at this;exact this
 obtain⟨A,q,e,_,s⟩:=k j p;simp only[Option.some.injEq,Addr.mk.injEq,and_true]at e;obtain⟨rfl,rfl⟩:=e;rw[oo l j p]at f;rw[add_eq,s];exact f
theorem jX.src{l:List mg}(h:jX W v l)(D:v=.slice ao n c):0<l.length->∃s,ao=some s/\∀j u,(dP l)[j]?=some u->W.cell? (s.add j)=some u:=by
 intro C;obtain⟨A,cap,k,_,_,x⟩:=h;rw[D]at k;simp only[Value.slice.injEq]at k;obtain⟨rfl,_,_⟩:=k;obtain⟨b,d,rfl,_,_⟩:=x 0 C;refine⟨_,rfl,fun j u f=>?_⟩;have y:j / 3<l.length:=by have:=(ge_.1 f).1;rw[gY]at this;omega
 obtain⟨E,z,e,_,p,q,r⟩:=x (j / 3) y;simp only[Option.some.injEq,Addr.mk.injEq,and_true]at e;obtain⟨rfl,rfl⟩:=e;have g:=pz l (j / 3) y;rw[add_eq];have i:j % 3=0\/j % 3=1\/j % 3=2:=o_;rcases i with i | i | i
 .have e:j=3*(j / 3):=o_;rw[e,g.1]at f;rw[(o_:d+j=d+j / 3*3),p];exact f
 .have e:j=3*(j / 3)+1:=o_;rw[e,g.2.1]at f;rw[(o_:d+j=d+j / 3*3+1),q];exact f
 .have e:j=3*(j / 3)+2:=o_;rw[e,g.2.2]at f;rw[(o_:d+j=d+j / 3*3+2),r];exact f
theorem Code.src(h:Code W v l)(E:v=.slice ao n c):0<l.length->∃x,ao=some x/\∀j u,(dw l)[j]?=some u->W.cell? (x.add j)=some u:=by
 intro D;obtain⟨C,cap,k,_,_,y⟩:=h;rw[E]at k;simp only[Value.slice.injEq]at k;obtain⟨rfl,_,_⟩:=k;obtain⟨b,d,rfl,_,_⟩:=y 0 D;refine⟨_,rfl,fun j u f=>?_⟩;have z:j / 4<l.length:=by have:=(ge_.1 f).1;rw[fT]at this;omega
 obtain⟨F,A,e,_,p,q,r,s⟩:=y (j / 4) z;simp only[Option.some.injEq,Addr.mk.injEq,and_true]at e;obtain⟨rfl,rfl⟩:=e;have g:=ng l (j / 4) z;rw[add_eq];have i:j % 4=0\/j % 4=1\/j % 4=2\/j % 4=3:=o_;rcases i with i | i | i | i
 .have e:j=4*(j / 4):=o_;rw[e,g.1]at f;rw[(o_:d+j=d+j / 4*4),p];exact f
 .have e:j=4*(j / 4)+1:=o_;rw[e,g.2.1]at f;rw[(o_:d+j=d+j / 4*4+1),q];exact f
 .have e:j=4*(j / 4)+2:=o_;rw[e,g.2.2.1]at f;rw[(o_:d+j=d+j / 4*4+2),r];exact f
 .have e:j=4*(j / 4)+3:=o_;rw[e,g.2.2.2]at f;rw[(o_:d+j=d+j / 4*4+3),s];exact f
theorem aca(l:List Int):∀v∈bY l,v.oneCell'=true:=by intro v b;simp only[bY,List.mem_map]at b;obtain⟨_,_,rfl⟩:=b;rfl
theorem Ye(l:List mg):∀v∈dP l,v.oneCell'=true:=by intro v b;simp only[dP,List.mem_flatMap,mm_,List.not_mem_nil,or_false]at b;obtain⟨_,_,rfl | rfl | rfl⟩:=b <;> rfl
theorem aeR(l:List ed):∀v∈dw l,v.oneCell'=true:=by intro v b;simp only[dw,List.mem_flatMap,mm_,List.not_mem_nil,or_false]at b;obtain⟨_,_,rfl | rfl | rfl | rfl⟩:=b <;> rfl
theorem LP{t m:Nat}{cs:List V_}{z:V_}(E:prog.underlying t=some (.slice e))(C:(prog.info? e).map (·.size)=some size)
  (r:w1.ownsRow B e size (s_ g (m+1) (m+1)) (m+1) (List.replicate ((m+1)*size) z)) (d:W.grownBy w1 none) (G:g=W.heap.size)
  (b:cs.length=m*size) (s:∀v∈cs,v.oneCell'=true) (h:0<m->∃i,ao=some i/\∀j v,cs[j]?=some v->W.cell? (i.add j)=some v) :
  ∃w',(∀F,(Builtin.copy_ #[t,t] F #[s_ g (m+1) (m+1),.slice ao m c]).run prog w1=.ok (goInt m) w')/\dh w' g e (cs++List.replicate size z)/\W.grownBy w' none:=by
 obtain⟨w',x,p,f⟩:=aaF w1 t e size g m c ao _ cs E C (Ro r) b (by rw[b,lp_,Nat.succ_mul];omega) (fun A=>by
  obtain⟨i,k,q⟩:=h A;refine⟨i,k,fun j v y=>?_⟩;exact d.cell (q j v y) i_) s
 refine⟨w',x,?_,?_⟩
 .rw [List.drop_replicate,b,Nat.succ_mul,Nat.add_sub_cancel_left]at p;exact p
 .have D:=d.size;have q:=f.size;refine⟨f.os.trans d.os,f.tape.trans d.tape,f.output.trans d.output,o_,fun k y _=>?_⟩;rw[f.block k o_ (by simp;omega),d.block k y i_]
theorem LZ{j:Nat}(h:w.ownsRow base e size (s_ g n cap) n xs):(w.setCell (a_ g j) u).ownsRow base e size (s_ g n cap) n (xs.set j u):=by
 refine⟨by rw[le_];exact h.1,?_⟩;rcases h.2 with ⟨d,_⟩ | ⟨x,k,f,d,p,q,s,r,i,b⟩
 .simp at d
 .simp only[Value.slice.injEq,Option.some.injEq,Addr.mk.injEq,and_true,true_and]at d;obtain⟨rfl,rfl⟩:=d;refine .inr ⟨g,cap,_,rfl,p,heap_setCell_same w g j f e u q,s,r,by simpa using i,?_⟩;rw[<-b];simp[List.take_set]
theorem Tz(h:w.ownsRow base e size (s_ g n cap) n xs)(j:Nat):w.frozen? (a_ g j)=false:=by
 rcases h.2 with ⟨b,_⟩ | ⟨q,f,i,b,r,p,x,s,k,d⟩
 .simp at b
 .simp only[Value.slice.injEq,Option.some.injEq,Addr.mk.injEq,and_true,true_and]at b;obtain⟨rfl,rfl⟩:=b;simp[World.frozen?,p]
theorem iN(h:w.ownsRow base e size (s_ g n cap) n xs):base<=g/\g<w.heap.size:=by
 rcases h.2 with ⟨b,_⟩ | ⟨q,f,i,b,j,p,s,r,k,d⟩
 .simp at b
 .simp only[Value.slice.injEq,Option.some.injEq,Addr.mk.injEq,and_true,true_and]at b;obtain⟨rfl,rfl⟩:=b;exact⟨j,(Array.getElem?_eq_some_iff.1 p).1⟩
theorem dL(h:w.ownsRow base e size v n xs)(y:0<n):∃g cap,v=s_ g n cap/\n<=cap/\cap<=9223372036854775807:=by
 rcases h.2 with ⟨i,r⟩ | ⟨p,b,k,i,s,x,d,j,q,f⟩
 .omega
 .unfold maxLen at j;exact⟨p,b,i,d,j⟩
theorem iR(w:W_)(base e size:Nat):w.ownsRow base e size n_ 0 []:=⟨i_,.inl ⟨rfl,rfl⟩⟩
theorem Lx(l:List ed):∀(i:Nat),i<l.length->∀y:ed,
  (y.op=(Pu.aO l i).op->y.b=(Pu.aO l i).b->y.bH=(Pu.aO l i).bH->(dw l).set (i*4+1) (I_ y.a)=dw (l.set i y))/\
  (y.op=(Pu.aO l i).op->y.a=(Pu.aO l i).a->y.bH=(Pu.aO l i).bH->(dw l).set (i*4+2) (I_ y.b)=dw (l.set i y))/\
  (y.op=(Pu.aO l i).op->y.a=(Pu.aO l i).a->y.b=(Pu.aO l i).b->(dw l).set (i*4+3) (I_ y.bH)=dw (l.set i y))/\
  ((((dw l).set (i*4) (I_ y.op)).set (i*4+1) (I_ y.a)).set (i*4+2) (I_ y.b)).set (i*4+3) (I_ y.bH)=dw (l.set i y):=by
 induction l with
 | nil=>intro i k;simp at k
 | cons x r q=>
  intro i k y;cases i with
  | zero=>
   simp only[dw,List.flatMap_cons,Pu.aO,List.getD_cons_zero,sz_];refine⟨fun b d f=>?_,fun b d f=>?_,fun b d f=>?_,?_⟩
   .simp [b,d,f]
   .simp [b,d,f]
   .simp [b,d,f]
   .simp
  | succ i=>
   have h:=q i (by simpa using k) y;have e:∀j,(i+1)*4+j=(i*4+j)+1+1+1+1:=fun j=>by omega
   have p:(i+1)*4=(i*4)+1+1+1+1:=o_;have g:Pu.aO (x::r) (i+1)=Pu.aO r i:=by simp[Pu.aO]
   have c:∀j:List ed,dw (x::j)=I_ x.op::I_ x.a::I_ x.b::I_ x.bH::dw j:=fun j=>by simp[dw]
   rw[g,ss_,c,c,e,e,e,p];simp only[ss_];refine⟨fun b d f=>?_,fun b d f=>?_,fun b d f=>?_,?_⟩
   .rw [h.1 b d f]
   .rw [h.2.1 b d f]
   .rw [h.2.2.1 b d f]
   .rw [h.2.2.2]
theorem VG(h:w.ownsRow base 50 4 (s_ g n cap) n (dw l)){i:Nat}(b:i<l.length) :
  w.cell? (a_ g (i*4))=some (I_ (Pu.aO l i).op)/\w.cell? (a_ g (i*4+1))=some (I_ (Pu.aO l i).a)/\w.cell? (a_ g (i*4+2))=some (I_ (Pu.aO l i).b)/\w.cell? (a_ g (i*4+3))=some (I_ (Pu.aO l i).bH):=by
 have q:=ng l i b;rw[Nat.mul_comm]at q;have c:∀j u,(dw l)[j]?=some u->w.cell? (a_ g j)=some u:=by intro j u d;have:=h.cells (g:=g) rfl j u d;rw[add_eq,Nat.zero_add]at this;exact this
 exact⟨c _ _ q.1,c _ _ q.2.1,c _ _ q.2.2.1,c _ _ q.2.2.2⟩
def Nz(x:Int):Prop:=-9223372036854775808<=x/\x<=9223372036854775807
theorem bV(h:w.ownsRow base e size (s_ g n cap) n xs){j:Nat}(b:xs[j]?=some u):w.cell? (a_ g j)=some u:=by have:=h.cells (g:=g) rfl j u b;rw[add_eq,Nat.zero_add]at this;exact this
theorem Tryz.inff3 : (prog.info? 3).map (fun i=>(i.zero,i.size,i.bytes))=some (some (I_ 0),1,8):=k_
theorem GN(a b:Int)(w:W_)(d:0<=a)(i:a<=255)(f:0<=b)(j:b<=255) :
  Calls prog 87 #[.int .u8 a,.int .u8 b] w fun e w'=>e=.returned (I_ (a+b*256))/\w=w':=by
 go_in;go_wp2;go_ret;exact⟨rfl,rfl⟩
theorem oD(x:Int)(b:-9223372036854775808<=x)(d:x<=9223372036854775807):IntKind.i64.wrap x=x:=by rw[IntKind.wrap_i64];omega
theorem yL(x:Int)(b:-9223372036854775808<=x:=by omega)(d:x<=9223372036854775807:=by omega):IntKind.i64.wrap x=x:=oD _ b d
theorem kZ x (b:-9223372036854775808<=x+1:=by omega) (d:x+1<=9223372036854775807:=by omega):IntKind.i64.wrap (x+1)=x+1:=oD _ b d
theorem Yg(a b:Int)(w:W_)(d:0<=a/\a<=255)(f:0<=b/\b<=255) :
  C_ 87 #[.int .u8 a,.int .u8 b] w fun e w'=>e=.returned (I_ (a+b*256))/\w'=w:=
 (GN a b w d.1 d.2 f.1 f.2).mono fun _ _ h=>⟨h.1,h.2.symm⟩
def bt(s:Y_)(n:Nat):Int:=((s.data.toList.getD n 0).toNat:Int)
theorem iM(s:Y_)(n:Nat):0<=bt s n/\bt s n<=255:=by unfold bt;have:=UInt8.toNat_lt (s.data.toList.getD n 0);omega
theorem eB(s:Y_)(i:Int)(n:Nat)(d:i=n)(h:n<s.size)(w:W_):(Instr.index 9 (.string s) (I_ i)).run prog w=.ok (.int .u8 (bt s n)) w:=by
 subst d;rw[run_index_string w _ _ _ _ underlying9,dif_pos o_];have e:bt s n=(((s[(n:Int).toNat]'(by simpa using h)).toNat:Nat):Int):=by have b:n<s.data.size:=h;unfold bt;simp only[tn_];rw[gd_,gg_ (by simpa using b)];rfl
 rw[e]
def pr(s:Y_)(n:Nat):Int:=bt s n+bt s (n+1)*256
def kQ(s:Y_)(b k:Nat):List Int:=(List.range k).map (fun i=>pr s (b+2*i))
def dJ(s:Y_)(b k:Nat):List mg:=(List.range k).map (fun i=>⟨bt s (b+3*i),bt s (b+3*i+1),bt s (b+3*i+2)⟩)
def lS(s:Y_)(b k:Nat):List ed:=(List.range k).map (fun i=>⟨bt s (b+5*i),bt s (b+5*i+1),bt s (b+5*i+2),pr s (b+5*i+3)⟩)
theorem Jt(s:Y_)(b k:Nat):bY (kQ s b (k+1))=bY (kQ s b k)++[I_ (bt s (b+2*k)+bt s (b+2*k+1)*256)]:=by simp[kQ,bY,List.range_succ,pr]
theorem Hd(s:Y_)(b k:Nat):dP (dJ s b (k+1))=dP (dJ s b k)++[I_ (bt s (b+3*k)),I_ (bt s (b+3*k+1)),I_ (bt s (b+3*k+2))]:=by unfold dJ dP;rw[List.range_succ,List.map_append,List.flatMap_append];simp
theorem Jq(s:Y_)(b k:Nat):dw (lS s b (k+1))=dw (lS s b k)++[I_ (bt s (b+5*k)),I_ (bt s (b+5*k+1)),I_ (bt s (b+5*k+2)),I_ (bt s (b+5*k+3)+bt s (b+5*k+3+1)*256)]:=by unfold lS dw;rw[List.range_succ,List.map_append,List.flatMap_append];simp[pr]
theorem qR(s:Y_)(b k:Nat):(kQ s b k).length=k:=by simp[kQ]
theorem lH(s:Y_)(b k:Nat):(dJ s b k).length=k:=by simp[dJ]
theorem tq(s:Y_)(b k:Nat):(lS s b k).length=k:=by simp[lS]
def Ky(e size n:Nat)(xs:List V_)(w:W_)(b:Ending)(w':W_):Prop:=∃v,b=.returned v/\B_ w w'/\w'.ownsRow w.heap.size e size v n xs
theorem Rm{b:W_}{o:Obj}{row:Option Nat}(h:Below B w wr)(d:B<=wr.heap.size)(f:(wr.alloc o).drew.grownBy b row)(i:∀k,row=some k->B<=k):Below B w b:=by refine ((h.alloc d o).drew).grown f ?_ i;show B<=(wr.alloc o).heap.size;simp;omega
theorem jc(d:n=w.heap.size)(j:Nat)(u:V_)(h:xs[j]?=some u):(w.alloc (c_ xs.toArray t)).cell? (((a_ n 0):Addr).add j)=some u:=by
 subst d;have:(w.alloc (c_ xs.toArray t)).cell? (a_ w.heap.size j)=some u:=by rw[World.cell?_alloc_mark];simpa using h
 by_cases b:j=0
 .subst b;simpa [Addr.add]using this
 .simpa [Addr.add,b]using this
theorem Ef(s:Y_)(w:W_)(V:s.size<=1000000) :
  Calls prog 88 #[.string s] w (Ky 3 1 (s.size / 2) (bY (kQ s 0 (s.size / 2))) w):=by
 obtain⟨aS,D,j,p,q⟩:=ip_ inff3;go_in;go_wp2_with (at_make;refine wpList_make_own _ rfl _ _ 31 rfl w.heap.size 3 aS (I_ 0) 1 underlying31 D j p _ _ _ (s.size / 2) rfl rfl o_ (by rw[q];omega) (by unfold maxLen;omega) dF ?_;intro w1 f b);have r:B_ w w1:=(Br_ _ _).grown b dF (fun k h=>by cases h);have d:=bL f;clear f b;go_loopw [3,4] (fun f i wr=>∃(k:Nat) (b:V_),k<=s.size / 2/\i=I_ ((2*k:Nat):Int)/\b=f/\B_ w wr/\wr.ownsRow w.heap.size 3 1 b k (bY (kQ s 0 k))) (fun _ i _=>s.size+2-(intOf i).toNat);exact⟨0,_,zl_ _,rfl,rfl,r,d.o⟩;clear d r;obtain⟨k,f,U,rfl,rfl,b,r⟩:=hrel;by_cases H:2*k+2<=s.size
 .have x:k+1<=s.size / 2:=o_;have d:=Jt s 0 k;have i:=bL d;clear d;rw[Nat.zero_add]at i;generalize d:2*k=a at *;have G:=bL d;clear d;have Q:=fun w=>eB s (a:Int) a rfl o_ w;have R:=fun w=>eB s ((a:Int)+1) (a+1) o_ o_ w;have y:=iM s a;have z:=iM s (a+1);generalize bt s a=E at *;generalize bt s (a+1)=F at *;have X:=jJ a;have Y:(a:Int)<s.size:=o_;have Z:(0:Int)<=a+1:=o_;have j3:(a:Int)+1<(s.size:Int):=o_;have O:=kZ a;have d:=bL r;clear r;go_wp2_with fail;go_region_held3 (fun _=>True) (trivial) (first | (refine sa_ _ r_ _ _ _ r_ w.heap.size 3 aS _ 1 8 underlying31 D j p q rfl o_ f k (bY (kQ s 0 k)) r_ ((oa_ d.o _).drew) (a_ wr.heap.size 0) 1 1 [I_ (E+F*256)] r_ r_ (World.news_of_block (cs:=#[I_ (E+F*256)]) (t:=3) (fr:=(0,0)) (hn_ wr _)) (by simp[Value.oneCell']) o_ (by unfold maxLen;omega) o_ (by have:=b.size;simp;omega) (wr.heap.size+1) i_ ?_;intro T S N C A I K) | (go_at_call 87;refine (GN _ _ _ y.1 y.2 z.1 z.2).mono ?_;rintro e w' ⟨rfl,rfl⟩));all_goals
   have L:B_ w N:=Rm b b.size A (fun J h=>(ol_ d.o J h).1);rw[<-i.o]at C;clear A I K Q R;go_wp2;go_roundw;case rel=>exact⟨k+1,_,x,by have:=G.o;go_num,rfl,L,C⟩
   case measure=>simp[intOf];omega
 .have d:k=s.size / 2:=o_;subst d;go_wp2;go_ret;exact⟨_,rfl,b,r⟩
end Go.Proofs.YtmccnmgaoppogabGreat
