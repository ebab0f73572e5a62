/-
 The walks: does the document's pattern match the empty word? (weirref)
 The walks: the document's graph. (weirref)
-/
import Derived.Test.YtmccnmgaoppogaaGreatHD
namespace Go.Proofs.YtmccnmgaoppogaaGreat
set_option maxRecDepth 100000
set_option maxHeartbeats 8000000
open Go.RowKit
theorem Dr.get {B g i:Nat} {s:ByteArray} {ns:List Pure.Nd} {vn vl:Value} {modes down:Int} {W:World} (h:Dr B g s i ns vn vl modes down W) {p:Nat} {x:Pure.Nd} (hp:ns[p]?=some x) :
  ∃gn cap,vn=.slice (some ⟨gn,0,none⟩) ns.length cap∧W.rangeAt gn (p*259) (ndC1 x):=by
 have hl:p<ns.length:=(List.getElem?_eq_some_iff.1 hp).1
 obtain⟨gn,cap,e,_,_⟩:=own_some h.own (by omega)
 subst e
 refine⟨gn,cap,rfl,?_⟩
 intro j u hu
 have hj:j<259:=by have:=(List.getElem?_eq_some_iff.1 hu).1;rw [ndC1_length] at this;exact this
 have:=ndC_get hp hj
 rw [hu] at this
 exact own_cell h.own this
namespace Pure
theorem At.two {ns:List Nd} {a b:Re} {m:Nat} {x:Nd} (h:∀i y,(nodes a m++nodes b (m+a.size)++[x])[i]?=some y→ns[m+i]?=some y):At ns a m∧At ns b (m+a.size)∧ns[m+a.size+b.size]?=some x:=by
 refine⟨At.left h,At.right (nodes_length a m) h,?_⟩
 have:=h (a.size+b.size) x (by rw [List.getElem?_append_right (by simp [nodes_length])];simp [nodes_length])
 rwa [←Nat.add_assoc] at this
theorem At.one {ns:List Nd} {a:Re} {m:Nat} {x:Nd} (h:∀i y,(nodes a m++[x])[i]?=some y→ns[m+i]?=some y):At ns a m∧ns[m+a.size]?=some x:=by
 refine⟨fun i y hy=>h i y (by rw [List.getElem?_append_left (List.getElem?_eq_some_iff.1 hy).1];exact hy),?_⟩
 exact h a.size x (by rw [List.getElem?_append_right (by simp [nodes_length])];simp [nodes_length])
end Pure
def nodeW (w:World) (x:Pure.Nd):World:=(w.alloc (.cells ndZ.toArray 161)).setCells w.heap.size 0 (ndC1 x)
theorem nodeW_below (w:World) (x:Pure.Nd):Below w.heap.size w (nodeW w x):=below_cells (g:=w.heap.size) lr_ _ 0 _ ((Below.refl w.heap.size w).alloc lr_ _)
theorem nodeW_blk (w:World) (x:Pure.Nd):Blk (nodeW w x) w.heap.size 161 (ndC1 x):=by
 have x0:Blk (w.alloc (.cells ndZ.toArray 161)) w.heap.size 161 ndZ:=heap_alloc_new _ _
 exact blk_stored _ x0 (by rw [ndZ_length,ndC1_length])
theorem empty_any (B g i:Nat) (s:ByteArray) (ns:List Pure.Nd) (vn vl:Value) (modes down:Int) (_hn:ns.length≤100000) (re:Pure.Re):∀(m:Nat) (w:World),Dr B g s i ns vn vl modes down w→Pure.At ns re m→
  Calls Tryz.prog 29 #[.pointer (some ⟨g,0,none⟩),.int .i64 ((m+re.size-1:Nat):Int)] w (RetVal (.bool re.empt) w):=by
 induction re with
 | pl T=>
  intro m w hd hat;have hx:ns[m]?=some ⟨1,0,0,T⟩:=hat 0 _ rfl;obtain⟨gn,cap,rfl,hr⟩:=hd.get hx;have hm:m<ns.length:=(List.getElem?_eq_some_iff.1 hx).1;rw [show m+(Pure.Re.pl T).size-1=m by simp only [Pure.Re.size];omega];generalize hp:m=p at *;have i0:=nz_ p;have i1:(p:Int)<(ns.length:Int):=by omega
  have c1:=bc_ 1 hd.rb rfl;have zv:=node_zeroV;have HR:=hide hr;have B1:=hide (nodeW_below w ⟨1,0,0,T⟩);have BX:=hide (nodeW_blk w ⟨1,0,0,T⟩);have D1:=hide (hd.below B1.out);clear hr hd hx hat hp;go_enter Tryz.func29,Tryz.ntmps29;go_upto_region 2 with (first | (refine wpList_load_mid rfl 161 (.tmp 15) rfl gn (p*259) rfl _ _ HR.out Tryz.underlying161 rfl node_size ?_) | (refine wpList_store_mid rfl 161 (.tmp 5) (.tmp 16) rfl w.heap.size 0 (ndC1 ⟨1,0,0,T⟩).toArray rfl rfl (ndZ_there _) (ndC1_sz _) (all_oneCell_toArray (ndC1_ones _)) ?_));clear c1 zv HR;rw [show (w.alloc (.cells ndZ.toArray 161)).setCells w.heap.size 0 (ndC1 ⟨1,0,0,T⟩)=nodeW w ⟨1,0,0,T⟩ from rfl];generalize nodeW w ⟨1,0,0,T⟩=W1 at *;have y0:=bc_ 0 BX.out rfl;have y1:=bc_ 1 BX.out rfl;have y2:=bc_ 2 BX.out rfl;have L1:=blk_lt BX.out;go_wp2;go_ret;exact⟨rfl,B1.out⟩
 | cat a b iha ihb=>
  intro m w hd hat;obtain⟨ha,hb,hx⟩:=Pure.At.two hat;have CA:=hide (fun W d=>iha m W d ha);have CB:=hide (fun W d=>ihb (m+a.size) W d hb);clear iha ihb ha hb;obtain⟨gn,cap,rfl,hr⟩:=hd.get hx;have hm:m+a.size+b.size<ns.length:=(List.getElem?_eq_some_iff.1 hx).1;rw [show m+(Pure.Re.cat a b).size-1=m+a.size+b.size by simp only [Pure.Re.size];omega];generalize Pure.noneB=T at *;generalize m+a.size+b.size-1=pb at *;generalize m+a.size-1=pa at *;generalize hp:m+a.size+b.size=p at *;have i0:=nz_ p;have i1:(p:Int)<(ns.length:Int):=by omega
  have c1:=bc_ 1 hd.rb rfl;have zv:=node_zeroV;have HR:=hide hr;have B1:=hide (nodeW_below w ⟨2,pa,pb,T⟩);have BX:=hide (nodeW_blk w ⟨2,pa,pb,T⟩);have D1:=hide (hd.below B1.out);clear hr hd hx hat hp;go_enter Tryz.func29,Tryz.ntmps29;go_upto_region 2 with (first | (refine wpList_load_mid rfl 161 (.tmp 15) rfl gn (p*259) rfl _ _ HR.out Tryz.underlying161 rfl node_size ?_) | (refine wpList_store_mid rfl 161 (.tmp 5) (.tmp 16) rfl w.heap.size 0 (ndC1 ⟨2,pa,pb,T⟩).toArray rfl rfl (ndZ_there _) (ndC1_sz _) (all_oneCell_toArray (ndC1_ones _)) ?_));clear c1 zv HR;rw [show (w.alloc (.cells ndZ.toArray 161)).setCells w.heap.size 0 (ndC1 ⟨2,pa,pb,T⟩)=nodeW w ⟨2,pa,pb,T⟩ from rfl];generalize nodeW w ⟨2,pa,pb,T⟩=W1 at *;have y0:=bc_ 0 BX.out rfl;have y1:=bc_ 1 BX.out rfl;have y2:=bc_ 2 BX.out rfl;have L1:=blk_lt BX.out
  go_wp2_with fail
  refine (CA.out _ D1.out).mono ?_
  clear CA;rintro e w2 ⟨rfl,hb2⟩;have y2':=bc_ 2 (blk_below BX.out hb2 L1) rfl;have D2:=hide (D1.out.below hb2);have B2:=hide (B1.out.trans (hb2.mono B1.out.size));clear hb2 y0 y1 y2 D1 B1 BX
  go_wp2_with fail
  refine (CB.out _ D2.out).mono ?_
  clear CB;rintro e w3 ⟨rfl,hb3⟩;have B3:=hide (B2.out.trans (hb3.mono B2.out.size));clear hb3 y2' D2 B2;have R:Hid ((Pure.Re.cat a b).empt=(a.empt && b.empt)):=rfl
  cases ea:a.empt with
  | true=>
   go_wp2;go_ret;exact⟨by rw [R.out,ea];rfl,B3.out⟩
  | false=>
   go_wp2;go_ret;exact⟨by rw [R.out,ea];rfl,B3.out⟩
 | alt a b iha ihb=>
  intro m w hd hat;obtain⟨ha,hb,hx⟩:=Pure.At.two hat;have CA:=hide (fun W d=>iha m W d ha);have CB:=hide (fun W d=>ihb (m+a.size) W d hb);clear iha ihb ha hb;obtain⟨gn,cap,rfl,hr⟩:=hd.get hx;have hm:m+a.size+b.size<ns.length:=(List.getElem?_eq_some_iff.1 hx).1;rw [show m+(Pure.Re.alt a b).size-1=m+a.size+b.size by simp only [Pure.Re.size];omega];generalize Pure.noneB=T at *;generalize m+a.size+b.size-1=pb at *;generalize m+a.size-1=pa at *;generalize hp:m+a.size+b.size=p at *;have i0:=nz_ p;have i1:(p:Int)<(ns.length:Int):=by omega
  have c1:=bc_ 1 hd.rb rfl;have zv:=node_zeroV;have HR:=hide hr;have B1:=hide (nodeW_below w ⟨3,pa,pb,T⟩);have BX:=hide (nodeW_blk w ⟨3,pa,pb,T⟩);have D1:=hide (hd.below B1.out);clear hr hd hx hat hp;go_enter Tryz.func29,Tryz.ntmps29;go_upto_region 2 with (first | (refine wpList_load_mid rfl 161 (.tmp 15) rfl gn (p*259) rfl _ _ HR.out Tryz.underlying161 rfl node_size ?_) | (refine wpList_store_mid rfl 161 (.tmp 5) (.tmp 16) rfl w.heap.size 0 (ndC1 ⟨3,pa,pb,T⟩).toArray rfl rfl (ndZ_there _) (ndC1_sz _) (all_oneCell_toArray (ndC1_ones _)) ?_));clear c1 zv HR;rw [show (w.alloc (.cells ndZ.toArray 161)).setCells w.heap.size 0 (ndC1 ⟨3,pa,pb,T⟩)=nodeW w ⟨3,pa,pb,T⟩ from rfl];generalize nodeW w ⟨3,pa,pb,T⟩=W1 at *;have y0:=bc_ 0 BX.out rfl;have y1:=bc_ 1 BX.out rfl;have y2:=bc_ 2 BX.out rfl;have L1:=blk_lt BX.out
  go_wp2_with fail
  refine (CA.out _ D1.out).mono ?_
  clear CA;rintro e w2 ⟨rfl,hb2⟩;have y2':=bc_ 2 (blk_below BX.out hb2 L1) rfl;have D2:=hide (D1.out.below hb2);have B2:=hide (B1.out.trans (hb2.mono B1.out.size));clear hb2 y0 y1 y2 D1 B1 BX
  go_wp2_with fail
  refine (CB.out _ D2.out).mono ?_
  clear CB;rintro e w3 ⟨rfl,hb3⟩;have B3:=hide (B2.out.trans (hb3.mono B2.out.size));clear hb3 y2' D2 B2;have R:Hid ((Pure.Re.alt a b).empt=(a.empt || b.empt)):=rfl
  cases ea:a.empt with
  | true=>
   go_wp2;go_ret;exact⟨by rw [R.out,ea];rfl,B3.out⟩
  | false=>
   go_wp2;go_ret;exact⟨by rw [R.out,ea];rfl,B3.out⟩
 | star a ih=>
  intro m w hd hat;obtain⟨ha,hx⟩:=Pure.At.one hat;have CA:=hide (fun W d=>ih m W d ha);clear ih ha;obtain⟨gn,cap,rfl,hr⟩:=hd.get hx;have hm:m+a.size<ns.length:=(List.getElem?_eq_some_iff.1 hx).1;rw [show m+(Pure.Re.star a).size-1=m+a.size by simp only [Pure.Re.size];omega];generalize Pure.noneB=T at *;generalize m+a.size-1=pa at *;generalize hp:m+a.size=p at *;have i0:=nz_ p;have i1:(p:Int)<(ns.length:Int):=by omega
  have c1:=bc_ 1 hd.rb rfl;have zv:=node_zeroV;have HR:=hide hr;have B1:=hide (nodeW_below w ⟨4,pa,0,T⟩);have BX:=hide (nodeW_blk w ⟨4,pa,0,T⟩);have D1:=hide (hd.below B1.out);clear hr hd hx hat hp;go_enter Tryz.func29,Tryz.ntmps29;go_upto_region 2 with (first | (refine wpList_load_mid rfl 161 (.tmp 15) rfl gn (p*259) rfl _ _ HR.out Tryz.underlying161 rfl node_size ?_) | (refine wpList_store_mid rfl 161 (.tmp 5) (.tmp 16) rfl w.heap.size 0 (ndC1 ⟨4,pa,0,T⟩).toArray rfl rfl (ndZ_there _) (ndC1_sz _) (all_oneCell_toArray (ndC1_ones _)) ?_));clear c1 zv HR;rw [show (w.alloc (.cells ndZ.toArray 161)).setCells w.heap.size 0 (ndC1 ⟨4,pa,0,T⟩)=nodeW w ⟨4,pa,0,T⟩ from rfl];generalize nodeW w ⟨4,pa,0,T⟩=W1 at *;have y0:=bc_ 0 BX.out rfl;have y1:=bc_ 1 BX.out rfl;have y2:=bc_ 2 BX.out rfl;have L1:=blk_lt BX.out;clear CA;go_wp2;go_ret;exact⟨rfl,B1.out⟩
 | plus a ih=>
  intro m w hd hat;obtain⟨ha,hx⟩:=Pure.At.one hat;have CA:=hide (fun W d=>ih m W d ha);clear ih ha;obtain⟨gn,cap,rfl,hr⟩:=hd.get hx;have hm:m+a.size<ns.length:=(List.getElem?_eq_some_iff.1 hx).1;rw [show m+(Pure.Re.plus a).size-1=m+a.size by simp only [Pure.Re.size];omega];generalize Pure.noneB=T at *;generalize m+a.size-1=pa at *;generalize hp:m+a.size=p at *;have i0:=nz_ p;have i1:(p:Int)<(ns.length:Int):=by omega
  have c1:=bc_ 1 hd.rb rfl;have zv:=node_zeroV;have HR:=hide hr;have B1:=hide (nodeW_below w ⟨5,pa,0,T⟩);have BX:=hide (nodeW_blk w ⟨5,pa,0,T⟩);have D1:=hide (hd.below B1.out);clear hr hd hx hat hp;go_enter Tryz.func29,Tryz.ntmps29;go_upto_region 2 with (first | (refine wpList_load_mid rfl 161 (.tmp 15) rfl gn (p*259) rfl _ _ HR.out Tryz.underlying161 rfl node_size ?_) | (refine wpList_store_mid rfl 161 (.tmp 5) (.tmp 16) rfl w.heap.size 0 (ndC1 ⟨5,pa,0,T⟩).toArray rfl rfl (ndZ_there _) (ndC1_sz _) (all_oneCell_toArray (ndC1_ones _)) ?_));clear c1 zv HR;rw [show (w.alloc (.cells ndZ.toArray 161)).setCells w.heap.size 0 (ndC1 ⟨5,pa,0,T⟩)=nodeW w ⟨5,pa,0,T⟩ from rfl];generalize nodeW w ⟨5,pa,0,T⟩=W1 at *;have y0:=bc_ 0 BX.out rfl;have y1:=bc_ 1 BX.out rfl;have y2:=bc_ 2 BX.out rfl;have L1:=blk_lt BX.out
  go_wp2_with fail
  refine (CA.out _ D1.out).mono ?_
  clear CA;rintro e w2 ⟨rfl,hb2⟩;have B2:=hide (B1.out.trans (hb2.mono B1.out.size));have R:Hid ((Pure.Re.plus a).empt=a.empt):=rfl;generalize a.empt=ae at *;clear hb2 y0 y1 y2 D1 B1 BX;go_wp2;go_ret;exact⟨by rw [R.out];rfl,B2.out⟩
 | opt a ih=>
  intro m w hd hat;obtain⟨ha,hx⟩:=Pure.At.one hat;have CA:=hide (fun W d=>ih m W d ha);clear ih ha;obtain⟨gn,cap,rfl,hr⟩:=hd.get hx;have hm:m+a.size<ns.length:=(List.getElem?_eq_some_iff.1 hx).1;rw [show m+(Pure.Re.opt a).size-1=m+a.size by simp only [Pure.Re.size];omega];generalize Pure.noneB=T at *;generalize m+a.size-1=pa at *;generalize hp:m+a.size=p at *;have i0:=nz_ p;have i1:(p:Int)<(ns.length:Int):=by omega
  have c1:=bc_ 1 hd.rb rfl;have zv:=node_zeroV;have HR:=hide hr;have B1:=hide (nodeW_below w ⟨6,pa,0,T⟩);have BX:=hide (nodeW_blk w ⟨6,pa,0,T⟩);have D1:=hide (hd.below B1.out);clear hr hd hx hat hp;go_enter Tryz.func29,Tryz.ntmps29;go_upto_region 2 with (first | (refine wpList_load_mid rfl 161 (.tmp 15) rfl gn (p*259) rfl _ _ HR.out Tryz.underlying161 rfl node_size ?_) | (refine wpList_store_mid rfl 161 (.tmp 5) (.tmp 16) rfl w.heap.size 0 (ndC1 ⟨6,pa,0,T⟩).toArray rfl rfl (ndZ_there _) (ndC1_sz _) (all_oneCell_toArray (ndC1_ones _)) ?_));clear c1 zv HR;rw [show (w.alloc (.cells ndZ.toArray 161)).setCells w.heap.size 0 (ndC1 ⟨6,pa,0,T⟩)=nodeW w ⟨6,pa,0,T⟩ from rfl];generalize nodeW w ⟨6,pa,0,T⟩=W1 at *;have y0:=bc_ 0 BX.out rfl;have y1:=bc_ 1 BX.out rfl;have y2:=bc_ 2 BX.out rfl;have L1:=blk_lt BX.out;clear CA;go_wp2;go_ret;exact⟨rfl,B1.out⟩
structure Gk (gs:List Nat) (w w':World):Prop where
 os:w'.os=w.os
 tape:w'.tape=w.tape
 output:w'.output=w.output
 size:w.heap.size≤w'.heap.size
 block:∀k,k<w.heap.size→k∉gs→w'.heap[k]?=w.heap[k]?
section
variable {gs:List Nat} {w w' w'':World}
theorem Gk.refl (gs:List Nat) (w:World):Gk gs w w:=⟨rfl,rfl,rfl,lr_,fun _ _ _=>rfl⟩
theorem Gk.trans (h:Gk gs w w') (h':Gk gs w' w''):Gk gs w w'':=⟨h'.os.trans h.os,h'.tape.trans h.tape,h'.output.trans h.output,Nat.le_trans h.size h'.size,fun k hk hn=>(h'.block k (Nat.lt_of_lt_of_le hk h.size) hn).trans (h.block k hk hn)⟩
theorem Gk.below (h:Below w.heap.size w w'):Gk gs w w':=⟨h.os,h.tape,h.output,h.size,fun k hk _=>h.block k hk⟩
theorem Gk.grown {g:Nat} (h:w.grownBy w' (some g)) (hg:g∈gs):Gk gs w w':=⟨h.os,h.tape,h.output,h.size,fun k hk hn=>h.block k hk (fun e=>by cases e;exact hn hg)⟩
theorem Gk.blk {g t:Nat} {xs:List Value} (h:Gk gs w w') (hb:Blk w g t xs) (hg:g∉gs):Blk w' g t xs:=by
 unfold Blk
 rw [h.block g (blk_lt hb) hg]
 exact hb
end
structure Gf (W:World) (gg gr gf cap n:Nat) (gs:List Nat) (fo:Nat→Nat→Bool):Prop where
 b:Blk W gg 202 [.pointer (some ⟨gr,0,none⟩),.slice (some ⟨gf,0,none⟩) n cap]
 own:W.ownsRow 0 203 1 (.slice (some ⟨gf,0,none⟩) n cap) n (blsC n gs)
 len:gs.length=n
 row:∀i g,gs[i]?=some g→Bl W g n (fo i)
 nd:gs.Nodup
section
variable {W W':World} {gg gr gf cap n:Nat} {gs:List Nat} {fo fo':Nat→Nat→Bool}
theorem Gf.below (h:Gf W gg gr gf cap n gs fo) (hb:Below W.heap.size W W'):Gf W' gg gr gf cap n gs fo:=
 ⟨blk_below h.b hb (blk_lt h.b),own_below h.own hb lr_,h.len,fun i g e=>blk_below (h.row i g e) hb (blk_lt (h.row i g e)),h.nd⟩
theorem Gf.congr (h:Gf W gg gr gf cap n gs fo) (e:∀i k,i<n→k<n→fo i k=fo' i k):Gf W gg gr gf cap n gs fo':=
 ⟨h.b,h.own,h.len,fun i g hg=>by
  have hi:i<n:=by rw [←h.len];exact (List.getElem?_eq_some_iff.1 hg).1
  have:=h.row i g hg;unfold Bl at *;rw [bln_congr (g:=fo i) (fun k hk=>(e i k hi hk).symm)]
  exact this,h.nd⟩
def setF (fo:Nat→Nat→Bool) (i k:Nat) (b:Bool):Nat→Nat→Bool:=fun a c=>if a=i∧c=k then b else fo a c
theorem Gf.set (h:Gf W gg gr gf cap n gs fo) {i g:Nat} (hi:gs[i]?=some g) (k:Nat) (b:Bool):Gf (W.setCell ⟨g,k,none⟩ (.bool b)) gg gr gf cap n gs (setF fo i k b)∧Gk gs W (W.setCell ⟨g,k,none⟩ (.bool b)):=by
 have hg:=Lib.grownBy_setCell W g k (.bool b)
 have hr:=h.row i g hi
 have hm:g∈gs:=List.mem_of_getElem? hi
 refine⟨⟨?_,row_apart h.own hr (by decide) hg,h.len,?_,h.nd⟩,.grown hg hm⟩
 ·exact blk_grown h.b hg (fun e=>by cases e;exact blk_ne2 h.b hr (by decide) rfl)
 ·intro j g' hj
  by_cases e:j=i
  ·subst e
   rw [hi] at hj;cases hj;have:=blk_set hr k (.bool b);rw [bln_set] at this;unfold Bl;rw [bln_congr (g:=setB (fo j) k b)]
   ·exact this
   ·intro c _
    unfold setF setB;simp
  ·have ne:g'≠g:=by
    intro e';subst e';have h1:=(List.getElem?_eq_some_iff.1 hi);have h2:=(List.getElem?_eq_some_iff.1 hj);exact e ((List.getElem_inj (h₀:=h2.1) (h₁:=h1.1) h.nd).1 (h2.2.trans h1.2.symm))
   have:=blk_grown (h.row j g' hj) hg (fun e'=>ne (Option.some.inj e'));unfold Bl;rw [bln_congr (g:=fo j)]
   ·exact this
   ·intro c _
    unfold setF;rw [if_neg (fun h=>e h.1)]
end
def RetGf (v:Value) (gg gr gf cap n:Nat) (gs:List Nat) (fo:Nat→Nat→Bool) (w:World) (e:Ending) (w':World):Prop:=
 e=.returned v∧Gk gs w w'∧Gf w' gg gr gf cap n gs fo
theorem joined_any (gg gr gf cap n ga gb:Nat) (gs:List Nat) (fo:Nat→Nat→Bool) (f1 f2:Nat→Bool) (w:World) (h:Gf w gg gr gf cap n gs fo) (h1:Bl w ga n f1) (h2:Bl w gb n f2) (na:ga∉gs) (nb:gb∉gs) (hn:n≤100000) :
  Calls Tryz.prog 123 #[.pointer (some ⟨gg,0,none⟩),.slice (some ⟨ga,0,none⟩) n n,.slice (some ⟨gb,0,none⟩) n n] w (RetGf (.tuple #[]) gg gr gf cap n gs (fun i k=>fo i k || (f1 i && f2 k)) w):=by
 have H:=hide h
 have H1:=hide h1
 have H2:=hide h2
 clear h h1 h2
 have NA:=hide na
 have NB:=hide nb
 clear na nb
 go_enter Tryz.func123,Tryz.ntmps123
 go_wp2_with fail
 go_loopg [6,7,8] n (fun gk iv _ _ wx=>∃i:Nat,i≤n∧gk=n-i∧iv=.int .i64 i∧Gk gs w wx∧Gf wx gg gr gf cap n gs (fun a c=>fo a c || (decide (a<i) && (f1 a && f2 c))))
 case atStart=>exact⟨0,Nat.zero_le _,rfl,rfl,Gk.refl _ _,H.out.congr (fun a c _ _=>by simp)⟩
 case round=>
  obtain⟨i,i_n,rfl,rfl,hk,hf⟩:=hrel;have HK:=hide hk;have HF:=hide hf;clear hk hf;by_cases hi:i<n
  ·have d1:=dl_ (i:Int) (n:Int) (by omega)
   have wi:=wr_ (i:Int) (by omega) (by omega);have i0:=nz_ i;have i1:(i:Int)<(n:Int):=by omega
   go_wp2_with fail
   go_loopg [7,14] n (fun gk kv _ wx=>∃k:Nat,k≤n∧gk=n-k∧kv=.int .i64 k∧Gk gs w wx∧Gf wx gg gr gf cap n gs (fun a c=>fo a c || ((decide (a<i) || (decide (a=i) && decide (c<k))) && (f1 a && f2 c))))
   case atStart=>exact⟨0,Nat.zero_le _,rfl,rfl,HK.out,HF.out.congr (fun a c _ _=>by simp)⟩
   case round=>
    clear HK HF;obtain⟨k,k_n,rfl,rfl,hk,hf⟩:=hrel;have HK:=hide hk;have HF:=hide hf;by_cases hc:k<n
    ·have d2:=dl_ (k:Int) (n:Int) (by omega)
     have wk:=wr_ (k:Int) (by omega) (by omega);have k0:=nz_ k;have k1:(k:Int)<(n:Int):=by omega
     have ca:=blk_cell (hk.blk H1.out NA.out) (bln_get f1 hi);have cb:=blk_cell (hk.blk H2.out NB.out) (bln_get f2 hc);obtain⟨gi,hgi⟩:∃g,gs[i]?=some g:=⟨_,List.getElem?_eq_getElem (by rw [H.out.len];exact hi)⟩;have cf:=bc_ 1 hf.b rfl;have cg:=own_cell hf.own (blsC_get hgi);have cr:=blk_cell (hf.row i gi hgi) (bln_get _ hc);have fr:=blk_frozen (hf.row i gi hgi) k
     have SAME:Hid ((f1 i && f2 k)=false→Gf wr gg gr gf cap n gs (fun a c=>fo a c || ((decide (a<i) || (decide (a=i) && decide (c<k+1))) && (f1 a && f2 c)))):=fun e=>HF.out.congr (fun a c _ _=>by
      by_cases h1:a=i∧c=k
      ·obtain⟨rfl,rfl⟩:=h1
       rw [e];simp
      ·have:(decide (a=i) && decide (c<k))=(decide (a=i) && decide (c<k+1)):=by
        by_cases h2:a=i
        ·simp only [h2,decide_true,Bool.true_and,decide_eq_decide]
         have:c≠k:=fun h3=>h1 ⟨h2,h3⟩
         omega
        ·simp [h2]
       simp only [this])
     have SET:Hid ((f1 i && f2 k)=true→Gf (wr.setCell ⟨gi,k,none⟩ (.bool true)) gg gr gf cap n gs (fun a c=>fo a c || ((decide (a<i) || (decide (a=i) && decide (c<k+1))) && (f1 a && f2 c)))∧Gk gs w (wr.setCell ⟨gi,k,none⟩ (.bool true))):=fun e=>by
      have:=HF.out.set hgi k true;refine⟨this.1.congr (fun a c _ _=>?_),HK.out.trans this.2⟩;unfold setF;by_cases h1:a=i∧c=k
      ·rw [if_pos h1]
       obtain⟨rfl,rfl⟩:=h1;rw [e];simp
      ·rw [if_neg h1]
       have:(decide (a=i) && decide (c<k))=(decide (a=i) && decide (c<k+1)):=by
        by_cases h2:a=i
        ·simp only [h2,decide_true,Bool.true_and,decide_eq_decide]
         have:c≠k:=fun h3=>h1 ⟨h2,h3⟩
         omega
        ·simp [h2]
       simp only [this]
     clear hk hf HF;generalize (fo i k || ((decide (i<i) || (decide (i=i) && decide (k<k))) && (f1 i && f2 k)))=old at *
     cases e1:f1 i with
     | false=>
      have S:=hide (SAME.out (by rw [e1];rfl));clear SAME SET;rw [e1] at ca;clear e1;go_wp2;go_roundg (n-(k+1))
      case measure=>omega
      case rel=>exact⟨k+1,by omega,rfl,by go_num,HK.out,S.out⟩
     | true=>
      cases e2:f2 k with
      | false=>
       have S:=hide (SAME.out (by rw [e1,e2];rfl));clear SAME SET;rw [e1] at ca;rw [e2] at cb;clear e1 e2;go_wp2;go_roundg (n-(k+1))
       case measure=>omega
       case rel=>exact⟨k+1,by omega,rfl,by go_num,HK.out,S.out⟩
      | true=>
       have S:=hide (SET.out (by rw [e1,e2];rfl));clear SAME SET;rw [e1] at ca;rw [e2] at cb;clear e1 e2;go_wp2;go_roundg (n-(k+1))
       case measure=>omega
       case rel=>exact⟨k+1,by omega,rfl,by go_num,S.out.2,S.out.1⟩
    ·have d2:=df_ (k:Int) (n:Int) (by omega)
     have S:Hid (Gf wr gg gr gf cap n gs (fun a c=>fo a c || (decide (a<i+1) && (f1 a && f2 c)))):=hf.congr (fun a c _ hcn=>by
      have h1:decide (c<k)=true:=decide_eq_true (by omega)
      have h2:(decide (a<i) || decide (a=i))=decide (a<i+1):=by
       rw [←Bool.decide_or,decide_eq_decide];omega
      rw [h1,Bool.and_true,h2])
     clear hk hf HF;go_wp2;go_roundg (n-(i+1))
     case measure=>omega
     case rel=>exact⟨i+1,by omega,rfl,by go_num,HK.out,S.out⟩
  ·have d1:=df_ (i:Int) (n:Int) (by omega)
   have S:Hid (Gf wr gg gr gf cap n gs (fun a c=>fo a c || (f1 a && f2 c))):=HF.out.congr (fun a c ha _=>by
    have h1:decide (a<i)=true:=decide_eq_true (by omega)
    rw [h1,Bool.true_and])
   clear HF;go_wp2
   go_end0
   exact⟨rfl,HK.out,S.out⟩
end Go.Proofs.YtmccnmgaoppogaaGreat
