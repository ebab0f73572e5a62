/-
 The walks: the document's machine with all that is in it: where each set leads. (weirref)
-/
import Derived.Test.YtmccnmgaoppogaaH25
import Derived.Deep.AppendLies
namespace Go.Proofs.Ytmccnmgaoppogaa
open Go.RowKit
namespace Pu
def Lead (n:Nat) (S:List (Nat→Bool)) (s:Nat→Bool) (y:Int):Prop:=
 (cntB s n=0∧y=-1)∨(cntB s n≠0∧∃k:Nat,y=(k:Int)∧1≤k∧k<S.length∧alk n (rowD S k) s=true)
theorem rowD_app {S more:List (Nat→Bool)} {k:Nat} (h:k<S.length):rowD (S++more) k=rowD S k:=by
 unfold rowD
 rw [List.getD_eq_getElem?_getD,List.getD_eq_getElem?_getD,List.getElem?_append_left h]
theorem Lead.mono {n:Nat} {S more:List (Nat→Bool)} {s:Nat→Bool} {y:Int} (h:Lead n S s y):Lead n (S++more) s y:=by
 rcases h with h | ⟨h0,k,h1,h2,h3,h4⟩
 ·exact .inl h
 ·exact .inr ⟨h0,k,h1,h2,by rw [List.length_append];omega,by rw [rowD_app h3];exact h4⟩
theorem Lead.new {n:Nat} {S:List (Nat→Bool)} {s:Nat→Bool} (h:cntB s n≠0) (hS:1≤S.length):Lead n (S++[s]) s (S.length:Int):=by
 refine .inr ⟨h,S.length,rfl,hS,by simp,?_⟩
 unfold rowD
 rw [List.getD_eq_getElem?_getD,List.getElem?_append_right lr_]
 simp [alk]
theorem plc_at {n:Nat} {s:Nat→Bool}:∀(fs:List (Nat→Bool)) (k0:Nat),¬plc n s fs k0<0→∃k:Nat,plc n s fs k0=(k:Int)∧k0≤k∧k<k0+fs.length∧alk n (fs.getD (k-k0) (fun _=>false)) s=true:=by
 intro fs
 induction fs with
 | nil=>intro k0 h;exact absurd (show plc n s [] k0<0 by unfold plc;omega) h
 | cons f r ih=>
  intro k0 h;unfold plc at h ⊢;by_cases c:alk n f s=true
  ·rw [if_pos c]
   exact⟨k0,rfl,lr_,by simp,by simpa using c⟩
  ·rw [if_neg c] at h ⊢
   obtain⟨k,h1,h2,h3,h4⟩:=ih (k0+1) h;refine⟨k,h1,by omega,by rw [List.length_cons];omega,?_⟩;rw [show k-k0=(k-(k0+1))+1 by omega,List.getD_cons_succ];exact h4
theorem Lead.old {n:Nat} {f0:Nat→Bool} {fs:List (Nat→Bool)} {s:Nat→Bool} (h:cntB s n≠0) (hp:¬plc n s fs 1<0):Lead n (f0::fs) s (plc n s fs 1):=by
 obtain⟨k,h1,h2,h3,h4⟩:=plc_at fs 1 hp
 refine .inr ⟨h,k,h1,h2,by rw [List.length_cons];omega,?_⟩
 unfold rowD
 rw [show k=(k-1)+1 by omega,List.getD_cons_succ]
 exact h4
def ToR (n:Nat) (S:List (Nat→Bool)) (st:Nat→Nat→Bool) (R:List Nat) (j:Nat) (xs:List Value):Prop:=
 xs.length=j∧∀(i d:Nat),i<j→R[i]?=some d→∃y:Int,xs[i]?=some (.int .i64 y)∧Lead n S (st d) y
theorem ToR.zero {n:Nat} {S:List (Nat→Bool)} {st:Nat→Nat→Bool} {R:List Nat}:ToR n S st R 0 []:=⟨rfl,fun _i _d h=>absurd h (Nat.not_lt_zero _)⟩
theorem ToR.mono {n:Nat} {S more:List (Nat→Bool)} {st:Nat→Nat→Bool} {R:List Nat} {j:Nat} {xs:List Value} (h:ToR n S st R j xs):ToR n (S++more) st R j xs:=
 ⟨h.1,fun i d h1 h2=>by
  obtain⟨y,h3,h4⟩:=h.2 i d h1 h2
  exact⟨y,h3,h4.mono⟩⟩
theorem ToR.snoc {n:Nat} {S:List (Nat→Bool)} {st:Nat→Nat→Bool} {R:List Nat} {j d:Nat} {xs:List Value} {y:Int} (h:ToR n S st R j xs) (hd:R[j]?=some d) (hy:Lead n S (st d) y):ToR n S st R (j+1) (xs++[.int .i64 y]):=by
 refine⟨by rw [List.length_append,h.1];rfl,fun i d' h1 h2=>?_⟩
 by_cases c:i<j
 ·obtain⟨z,h3,h4⟩:=h.2 i d' c h2
  exact⟨z,by rw [List.getElem?_append_left (by rw [h.1];exact c)];exact h3,h4⟩
 ·have e:i=j:=by omega
  subst e;rw [hd] at h2;cases h2;exact⟨y,by rw [List.getElem?_append_right (by rw [h.1];exact lr_),h.1];simp,hy⟩
def Hit (ls:List Ln) (mode:Int) (n:Nat) (s:Nat→Bool) (i:Nat):Prop:=∃x,ls[i]?=some x∧x.mode=mode∧∃m,m<n∧laN x.re (nbase (ls.take i)) m=true∧s m=true
def RuleR (ls:List Ln) (mode:Int) (n:Nat) (s:Nat→Bool) (i0:Nat) (r:Int):Prop:=
 (r=-1∧∀i,i0≤i→¬Hit ls mode n s i)∨(∃i:Nat,r=(i:Int)∧i0≤i∧Hit ls mode n s i∧∀j,i0≤j→j<i→¬Hit ls mode n s j)
theorem Hit.lt {ls:List Ln} {mode:Int} {n:Nat} {s:Nat→Bool} {i:Nat} (h:Hit ls mode n s i):i<ls.length:=by
 obtain⟨x,h1,_⟩:=h
 exact (List.getElem?_eq_some_iff.1 h1).1
theorem RuleR.top {ls:List Ln} {mode:Int} {n:Nat} {s:Nat→Bool}:RuleR ls mode n s ls.length (-1):=.inl ⟨rfl,fun i h1 h2=>by have:=h2.lt;omega⟩
theorem RuleR.miss {ls:List Ln} {mode:Int} {n:Nat} {s:Nat→Bool} {p:Nat} {r:Int} (h:RuleR ls mode n s (p+1) r) (hm:¬Hit ls mode n s p):RuleR ls mode n s p r:=by
 rcases h with ⟨h1,h2⟩ | ⟨i,h1,h2,h3,h4⟩
 ·refine .inl ⟨h1,fun i hi=>?_⟩
  by_cases c:i=p
  ·subst c;exact hm
  ·exact h2 i (by omega)
 ·refine .inr ⟨i,h1,by omega,h3,fun j hj hji=>?_⟩
  by_cases c:j=p
  ·subst c;exact hm
  ·exact h4 j (by omega) hji
theorem RuleR.hit {ls:List Ln} {mode:Int} {n:Nat} {s:Nat→Bool} {p:Nat} (hm:Hit ls mode n s p):RuleR ls mode n s p (p:Int):=.inr ⟨p,rfl,lr_,hm,fun j h1 h2=>by omega⟩
end Pu
structure MS2 (W1:World) (n go:Nat) (vS vT vR:Value) (gss:List Nat) (S:List (Nat→Bool)) (ts rs:List Value) (tc:List (List Value)) (W:World):Prop extends MS W1 n go vS vT vR gss S ts rs W where
 tl:ts.length=tc.length
 tr:∀(i:Nat) (v:Value) (x:List Value),ts[i]?=some v→tc[i]?=some x→W.ownsRow W1.heap.size 3 1 v x.length x
 ne:∀(i:Nat) (v:Value) (b:Nat),ts[i]?=some v→v.ownBlock=some b→vR.ownBlock≠some b
section
variable {W1 W W' w2:World} {n go:Nat} {vS vT vR v2:Value} {gss:List Nat} {S:List (Nat→Bool)} {ts rs:List Value} {tc:List (List Value)}
theorem MS2.at (h:MS2 W1 n go vS vT vR gss S ts rs tc W) {i:Nat} {v:Value} (hi:ts[i]?=some v):∃x,tc[i]?=some x∧W.ownsRow W1.heap.size 3 1 v x.length x:=by
 have hl:=(List.getElem?_eq_some_iff.1 hi).1
 rw [h.tl] at hl
 exact⟨_,List.getElem?_eq_getElem hl,h.tr i v _ hi (List.getElem?_eq_getElem hl)⟩
theorem MS2.lt (h:MS2 W1 n go vS vT vR gss S ts rs tc W) {i:Nat} {v:Value} {b:Nat} (hi:ts[i]?=some v) (hb:v.ownBlock=some b):b<W.heap.size:=by
 obtain⟨x,_,ho⟩:=h.at hi
 exact (World.ownsRow.lt ho b hb).2
theorem MS2.below (h:MS2 W1 n go vS vT vR gss S ts rs tc W) (hb:Below W.heap.size W W'):MS2 W1 n go vS vT vR gss S ts rs tc W':=
 ⟨h.toMS.below hb,h.tl,fun i v x h1 h2=>own_below (h.tr i v x h1 h2) hb lr_,h.ne⟩
theorem MS2.grow (h:MS2 W1 n go vS vT vR gss S ts rs tc W) {Bt k:Nat} {vt:Value} {xs:List Value} (ho:W.ownsRow Bt 3 1 vt k xs) (hlt:∀b,vR.ownBlock=some b→b<Bt) (hlt2:∀(i:Nat) (v:Value) (b:Nat),ts[i]?=some v→v.ownBlock=some b→b<Bt) (hB:W1.heap.size≤Bt) (hg:W.grownBy W' vt.ownBlock):MS2 W1 n go vS vT vR gss S ts rs tc W':=
 ⟨h.toMS.grow ho hlt hB hg,h.tl,fun i v x h1 h2=>own_off (h.tr i v x h1 h2) (fun b e e'=>by
  have:=hlt2 i v b h1 e;have:=(World.ownsRow.lt ho b e'.symm).1
  omega) hg,h.ne⟩
theorem MS2.addS (h:MS2 W1 n go vS vT vR gss S ts rs tc W) {gN:Nat} {s:Nat→Bool} (hs:Bl W gN n s) (ho:w2.ownsRow W1.heap.size 148 1 v2 (blsC n gss++[rowV gN n]).length (blsC n gss++[rowV gN n])) (hg:W.grownBy w2 vS.ownBlock) :
  MS2 W1 n go v2 vT vR (gss++[gN]) (S++[s]) ts rs tc (w2.setCell ⟨go,0,none⟩ v2):=by
 have b2:=row_far h.s.own h.b (by decide) hg
 exact⟨h.toMS.addS hs ho hg,h.tl,fun i v x h1 h2=>row_apart (rows_apart (h.tr i v x h1 h2) h.s.own (by decide) hg) b2 (by decide) (Lib.grownBy_setCell w2 go 0 v2),h.ne⟩
theorem MS2.addT (h:MS2 W1 n go vS vT vR gss S ts rs tc W) {Bt:Nat} {q:Value} {xs:List Value} (hq:W.ownsRow Bt 3 1 q xs.length xs) (hlt:∀b,vR.ownBlock=some b→b<Bt) (hB:W1.heap.size≤Bt) (ho:w2.ownsRow W1.heap.size 22 1 v2 (ts++[q]).length (ts++[q])) (hg:W.grownBy w2 vT.ownBlock) :
  MS2 W1 n go vS v2 vR gss S (ts++[q]) rs (tc++[xs]) (w2.setCell ⟨go,1,none⟩ v2):=by
 have b2:=row_far h.t h.b (by decide) hg
 refine⟨h.toMS.addT ho hg,by rw [List.length_append,List.length_append,h.tl];rfl,fun i v x h1 h2=>?_,fun i v b h1 h2=>?_⟩
 ·refine row_apart (rows_apart ?_ h.t (by decide) hg) b2 (by decide) (Lib.grownBy_setCell w2 go 1 v2)
  rcases Pu.snoc_get h1 with ⟨hl,h1'⟩ | ⟨e1,e2⟩
  ·rw [List.getElem?_append_left (by rw [←h.tl];exact hl)] at h2
   exact h.tr i v x h1' h2
  ·subst e2
   rw [e1,h.tl] at h2;have:xs=x:=by simpa using h2
   subst this;exact own_mono hq hB
 ·rcases Pu.snoc_get h1 with ⟨_,h1'⟩ | ⟨_,e2⟩
  ·exact h.ne i v b h1' h2
  ·subst e2
   intro e;have:=hlt b e;have:=(World.ownsRow.lt hq b h2).1;omega
theorem MS2.addR (h:MS2 W1 n go vS vT vR gss S ts rs tc W) {q:Value} {g2 c2 k2:Nat} (hv:v2=.slice (some ⟨g2,0,none⟩) k2 c2) (hat:vR.ownBlock=some g2∨g2=W.heap.size) (ho:w2.ownsRow W1.heap.size 3 1 v2 (rs++[q]).length (rs++[q])) (hg:W.grownBy w2 vR.ownBlock) :
  MS2 W1 n go vS vT v2 gss S ts (rs++[q]) tc (w2.setCell ⟨go,2,none⟩ v2):=by
 have b2:=row_far h.r h.b (by decide) hg
 refine⟨h.toMS.addR ho hg,h.tl,fun i v x h1 h2=>?_,fun i v b h1 h2 e=>?_⟩
 ·exact row_apart (own_off (h.tr i v x h1 h2) (fun b e e'=>h.ne i v b h1 e e'.symm) hg) b2 (by decide) (Lib.grownBy_setCell w2 go 2 v2)
 ·subst hv
  have e':g2=b:=Option.some.inj e;subst e';rcases hat with hat | hat
  ·exact h.ne i v g2 h1 h2 hat
  ·have:=h.lt h1 h2
   omega
end
theorem wpList_append_at {w:World} {ops:Array Oper} {rest:List Oper} {o:Oper} {a:Act} {Q:Exit→Act→World→Prop} (hgd:o.guard=none) (s x:Operand) (t e:TypeId)
  (ho:o.op=.call { callee:=.builtin .append,args:=#[s,x],argTypes:=#[t,t] }) (z:Value) (bytes:Nat) (hu:Try.prog.underlying t=some (.slice e)) (hi:(Try.prog.info? e).map (fun i=>(i.zero,i.size,i.bytes))=some (some z,1,bytes)) (hzc:z.cells.size=1) (hby:bytes≤24)
  (base:Nat) (v:Value) (vs:List Value) (hs:a.eval s=v) (hown:w.ownsRow base e 1 v vs.length vs)
  (gx:Nat) (q:Value) (hx:a.eval x=.slice (some ⟨gx,0,none⟩) 1 1) (hb:Blk w gx e [q]) (hq:q.oneCell'=true) (hlen:vs.length≤1000) (hbase:base≤w.heap.size)
  (h:∀g cap w',w'.ownsRow base e 1 (.slice (some ⟨g,0,none⟩) (vs.length+1) cap) (vs++[q]).length (vs++[q])→w.grownBy w' v.ownBlock→(v.ownBlock=some g∨g=w.heap.size)→wpList Try.prog ops Q rest (a.put o.dst (.slice (some ⟨g,0,none⟩) (vs.length+1) cap)) w'):wpList Try.prog ops Q (o::rest) a w:=by
 obtain⟨il,hil,hl0,hl1,hl2⟩:=info_parts hi
 refine wpList_append_lies _ hgd s x t ho base e il _ 1 bytes hu hil hl0 hl1 hl2 hzc (by decide) v vs.length vs hs hown ⟨gx,0,none⟩ 1 1 [q] hx rfl ?_ (fun u hu=>by simp at hu;rw [hu];exact hq) (by decide) (by unfold maxLen;omega) ?_ hbase _ rfl ?_
 ·intro j y hy
  have:=blk_cell hb hy;simpa [add_eq] using this
 ·have:(vs.length+1)*bytes≤1001*24:=Nat.mul_le_mul (by omega) hby
  omega
 ·intro g cap w' h1 h2 h3 _
  refine h g cap w' ?_ h2 h3;rw [List.length_append];exact h1
end Go.Proofs.Ytmccnmgaoppogaa
