/-
 The walks: marks of a part of the document's pattern: a leaf. (weirref)
 The walks: marks of a part of the document's pattern: what is repeated. (weirref)
 The walks: marks of a part of the document's pattern: two parts. (weirref)
-/
import Derived.Test.YtmccnmgaoppogaaGreatHG
namespace Go.Proofs.YtmccnmgaoppogaaGreat
set_option maxRecDepth 100000
set_option maxHeartbeats 8000000
open Go.RowKit
section
variable {gs:List Nat} {w w':World} {gg gr gf cap n:Nat} {fo:Nat→Nat→Bool}
theorem Gf.notin {g t:Nat} {xs:List Value} (h:Gf w gg gr gf cap n gs fo) (hb:Blk w g t xs) (ht:t≠4):g∉gs:=by
 intro hg
 obtain⟨i,hi⟩:=List.getElem?_of_mem hg
 exact blk_ne2 hb (h.row i g hi) ht rfl
theorem Gf.up (h:Gf w gg gr gf cap n gs fo):∀g∈gs,g<w.heap.size:=by
 intro g hg
 obtain⟨i,hi⟩:=List.getElem?_of_mem hg
 exact blk_lt (h.row i g hi)
theorem Gk.rows {B t size m:Nat} {v:Value} {xs:List Value} (hk:Gk gs w w') (h:Gf w gg gr gf cap n gs fo) (hn:w.ownsRow B t size v m xs) (ht:t≠4):w'.ownsRow B t size v m xs:=by
 refine⟨hn.1,?_⟩
 rcases hn.2 with h0 | ⟨g,cap,cur,h3,h4,h5,h6⟩
 ·exact .inl h0
 ·refine .inr ⟨g,cap,cur,h3,h4,?_,h6⟩
  have hl:=(Array.getElem?_eq_some_iff.1 h5).1
  rw [hk.block g hl (fun hg=>by
   obtain⟨i,hi⟩:=List.getElem?_of_mem hg;have:=h.row i g hi;unfold Bl Blk at this;rw [this] at h5;cases h5
   exact ht rfl)]
  exact h5
theorem Gk.dr {B g i:Nat} {s:ByteArray} {ns:List Pure.Nd} {vn vl:Value} {modes down:Int} (hk:Gk gs w w') (h:Gf w gg gr gf cap n gs fo) (hd:Dr B g s i ns vn vl modes down w):Dr B g s i ns vn vl modes down w':=
 ⟨hk.blk hd.rb (h.notin hd.rb (by decide)),hd.up,hk.rows h hd.own (by decide)⟩
end
def mkC (e:Bool) (v1 v2:Value):List Value:=[.bool e,v1,v2]
abbrev rowV (g n:Nat):Value:=.slice (some ⟨g,0,none⟩) n n
structure MF (B g i:Nat) (s:ByteArray) (ns:List Pure.Nd) (vn vl:Value) (modes down:Int) (gg gf cap:Nat) (gs:List Nat) (fo:Nat→Nat→Bool) (x:Pure.Nd) (r gx:Nat) (w W:World):Prop where
 dr:Dr B g s i ns vn vl modes down W
 gf:Gf W gg g gf cap ns.length gs fo
 gk:Gk gs w W
 r0:Blk W r 205 (mkC false (.slice none 0 0) (.slice none 0 0))
 nd:Blk W gx 161 (ndC1 x)
 up:∀g∈gs,g<w.heap.size
 lr:w.heap.size≤r
section
variable {B g i:Nat} {s:ByteArray} {ns:List Pure.Nd} {vn vl:Value} {modes down:Int} {gg gf cap:Nat} {gs:List Nat} {fo fo':Nat→Nat→Bool} {x:Pure.Nd} {r gx:Nat} {w W W':World}
theorem MF.below (h:MF B g i s ns vn vl modes down gg gf cap gs fo x r gx w W) (hb:Below W.heap.size W W'):MF B g i s ns vn vl modes down gg gf cap gs fo x r gx w W':=
 ⟨h.dr.below hb,h.gf.below hb,h.gk.trans (.below hb),blk_below h.r0 hb (blk_lt h.r0),blk_below h.nd hb (blk_lt h.nd),h.up,h.lr⟩
theorem MF.on (h:MF B g i s ns vn vl modes down gg gf cap gs fo x r gx w W) (hk:Gk gs W W') (hf:Gf W' gg g gf cap ns.length gs fo'):MF B g i s ns vn vl modes down gg gf cap gs fo' x r gx w W':=
 ⟨hk.dr h.gf h.dr,hf,h.gk.trans hk,hk.blk h.r0 (h.gf.notin h.r0 (by decide)),hk.blk h.nd (h.gf.notin h.nd (by decide)),h.up,h.lr⟩
def mk0 (w:World):World:=w.alloc (.cells #[.bool false,.slice none 0 0,.slice none 0 0] 205)
theorem mk0_below (w:World):Below w.heap.size w (mk0 w):=bn_ _
theorem MF.new (hd:Dr B g s i ns vn vl modes down w) (hf:Gf w gg g gf cap ns.length gs fo) (x:Pure.Nd):MF B g i s ns vn vl modes down gg gf cap gs fo x w.heap.size (mk0 w).heap.size w (nodeW (mk0 w) x):=by
 have b2:=nodeW_below (mk0 w) x
 have b:=(mk0_below w).trans (b2.mono (mk0_below w).size)
 have r:Blk (mk0 w) w.heap.size 205 (mkC false (.slice none 0 0) (.slice none 0 0)):=heap_alloc_new _ _
 exact⟨hd.below b,hf.below b,.below b,blk_below r b2 (blk_lt r),nodeW_blk (mk0 w) x,hf.up,lr_⟩
end
def RetMk (e0:Bool) (f1 f2:Nat→Bool) (gg gr gf cap n:Nat) (gs:List Nat) (fo:Nat→Nat→Bool) (w:World) (e:Ending) (w':World):Prop:=
 ∃ga gb,e=.returned (.agg #[.bool e0,rowV ga n,rowV gb n])∧Gk gs w w'∧Gf w' gg gr gf cap n gs fo∧w.heap.size≤ga∧w.heap.size≤gb∧Bl w' ga n f1∧Bl w' gb n f2
theorem marks_info:(Tryz.prog.info? 205).map (fun i=>(i.zero,i.size))=some (some (.agg (mkC false (.slice none 0 0) (.slice none 0 0)).toArray),3):=by kernel_rfl
theorem marks_load {W:World} {g:Nat} {a b c:Value} (h:Blk W g 205 [a,b,c]):(loadVar 205 ⟨g,0,none⟩).run Tryz.prog W=.ok (.agg #[a,b,c]) W:=
 run_loadVar_mid W g 0 205 [a,b,c] _ (blk_range h) Tryz.underlying205 rfl (by kernel_rfl)
section
variable {gs:List Nat} {w W W':World} {gg gr gf cap n:Nat} {fo:Nat→Nat→Bool}
theorem Gk.grownN {g:Nat} (h:Gk gs w W) (hg:W.grownBy W' (some g)) (hl:w.heap.size≤g):Gk gs w W':=
 ⟨hg.os.trans h.os,hg.tape.trans h.tape,hg.output.trans h.output,Nat.le_trans h.size hg.size,fun k hk hn=>(hg.block k (Nat.lt_of_lt_of_le hk h.size) (fun e=>by cases e;omega)).trans (h.block k hk hn)⟩
theorem Gf.out {g t:Nat} {xs:List Value} (h:Gf W gg gr gf cap n gs fo) (hb:Blk W g t xs) (ht:t≠202) (ht2:t≠203) (hg:W.grownBy W' (some g)) (hn:g∉gs):Gf W' gg gr gf cap n gs fo:=
 ⟨blk_grown h.b hg (fun e=>by cases e;exact blk_ne2 h.b hb (fun e=>ht e.symm) rfl),row_apart h.own hb ht2 hg,h.len,fun i g' e=>blk_grown (h.row i g' e) hg (fun e'=>by cases e';exact hn (List.mem_of_getElem? e)),h.nd⟩
theorem mk_fin {r gc gd:Nat} {f1 f2:Nat→Bool} {x y z:Value} (hk:Gk gs w W) (hf:Gf W gg gr gf cap n gs fo) (up:∀g∈gs,g<w.heap.size) (hr:Blk W r 205 [x,y,z]) (lr:w.heap.size≤r) (lc:w.heap.size≤gc) (ld:w.heap.size≤gd) (bc:Bl W gc n f1) (bd:Bl W gd n f2) (e:Bool) :
  (loadVar 205 ⟨r,0,none⟩).run Tryz.prog (set3 W r (.bool e) (rowV gc n) (rowV gd n))=.ok (.agg #[.bool e,rowV gc n,rowV gd n]) (set3 W r (.bool e) (rowV gc n) (rowV gd n))∧
  RetMk e f1 f2 gg gr gf cap n gs fo w (.returned (.agg #[.bool e,rowV gc n,rowV gd n])) (set3 W r (.bool e) (rowV gc n) (rowV gd n)):=by
 have hg:=three_set W r (.bool e) (rowV gc n) (rowV gd n)
 refine⟨marks_load (three_blk hr _ _ _),gc,gd,rfl,hk.grownN hg lr,hf.out hr (by decide) (by decide) hg (fun h=>by have:=up r h;omega),lc,ld,?_,?_⟩
 ·exact blk_grown bc hg (fun e=>by cases e;exact blk_ne2 bc hr (by decide) rfl)
 ·exact blk_grown bd hg (fun e=>by cases e;exact blk_ne2 bd hr (by decide) rfl)
end
theorem three_new (W:World) (o0 o1 o2:Obj):Below W.heap.size W (((W.alloc o0).alloc o1).alloc o2).drew∧(((W.alloc o0).alloc o1).alloc o2).drew.heap[W.heap.size]?=some o0∧(((W.alloc o0).alloc o1).alloc o2).drew.heap[W.heap.size+1]?=some o1∧(((W.alloc o0).alloc o1).alloc o2).drew.heap[W.heap.size+1+1]?=some o2:=by
 have a1:Below W.heap.size W (W.alloc o0):=bn_ _
 have a2:Below (W.alloc o0).heap.size (W.alloc o0) ((W.alloc o0).alloc o1):=bn_ _
 have a3:Below ((W.alloc o0).alloc o1).heap.size ((W.alloc o0).alloc o1) (((W.alloc o0).alloc o1).alloc o2):=bn_ _
 have s1:(W.alloc o0).heap.size=W.heap.size+1:=World.size_alloc _ _
 have s2:((W.alloc o0).alloc o1).heap.size=W.heap.size+1+1:=by rw [World.size_alloc,s1]
 have n0:=heap_alloc_new W o0
 have n1:=heap_alloc_new (W.alloc o0) o1
 have n2:=heap_alloc_new ((W.alloc o0).alloc o1) o2
 rw [s1] at n1
 rw [s2] at n2
 refine⟨((a1.trans (a2.mono a1.size)).trans (a3.mono (a1.trans (a2.mono a1.size)).size)).drew,?_,?_,n2⟩
 ·show (((W.alloc o0).alloc o1).alloc o2).heap[W.heap.size]?=_
  rw [a3.block _ (by omega),a2.block _ (by omega)];exact n0
 ·show (((W.alloc o0).alloc o1).alloc o2).heap[W.heap.size+1]?=_
  rw [a3.block _ (by omega)];exact n1
theorem marked_pl (B g i:Nat) (s:ByteArray) (ns:List Pure.Nd) (vn vl:Value) (modes down:Int) (hn:ns.length≤100000) (gg gf cap:Nat) (gs:List Nat) (fo:Nat→Nat→Bool) (T:Nat→Bool) (p:Nat) (w:World) (hd:Dr B g s i ns vn vl modes down w) (hf:Gf w gg g gf cap ns.length gs fo) (hx:ns[p]?=some ⟨1,0,0,T⟩) :
  Calls Tryz.prog 96 #[.pointer (some ⟨gg,0,none⟩),.int .i64 (p:Int)] w (RetMk false (fun k=>decide (k=p)) (fun k=>decide (k=p)) gg g gf cap ns.length gs fo w):=by
 obtain⟨gn,capn,rfl,hr⟩:=(hd.below (mk0_below w)).get hx
 have hm:p<ns.length:=(List.getElem?_eq_some_iff.1 hx).1
 have i0:=nz_ p
 have i1:(p:Int)<(ns.length:Int):=by omega
 have M1:=hide (MF.new hd hf ⟨1,0,0,T⟩)
 have C0:Hid ((mk0 w).cell? ⟨gg,0,none⟩=some (.pointer (some ⟨g,0,none⟩))):=blk_cell (j:=0) (hf.below (mk0_below w)).b rfl
 have C1:Hid ((mk0 w).cell? ⟨g,1,none⟩=some (.slice (some ⟨gn,0,none⟩) ns.length capn)):=blk_cell (j:=1) (hd.below (mk0_below w)).rb rfl
 have LW:Hid (w.heap.size≤(mk0 w).heap.size):=(mk0_below w).size
 have HR:=hide hr
 clear hr hd hx hf
 go_enter Tryz.func96,Tryz.ntmps96
 go_upto_region 1 with (fail)
 rw [show w.alloc (.cells #[.bool false,.slice none 0 0,.slice none 0 0] 205)=mk0 w from rfl]
 generalize mk0 w=W0 at *
 generalize hq:w.heap.size=r at *
 have c0:W0.cell? ⟨gg,0,none⟩=some (.pointer (some ⟨g,0,none⟩)):=C0.out
 have c1:W0.cell? ⟨g,1,none⟩=some (.slice (some ⟨gn,0,none⟩) ns.length capn):=C1.out
 have zv:=node_zeroV
 clear C0 C1
 go_upto_region 2 with (first | (refine wpList_load_mid rfl 161 (.tmp 21) rfl gn (p*259) rfl _ _ HR.out Tryz.underlying161 rfl node_size ?_) | (refine wpList_store_mid rfl 161 (.tmp 5) (.tmp 22) rfl W0.heap.size 0 (ndC1 ⟨1,0,0,T⟩).toArray rfl rfl (ndZ_there _) (ndC1_sz _) (all_oneCell_toArray (ndC1_ones _)) ?_))
 clear c0 c1 zv HR
 rw [show (W0.alloc (.cells ndZ.toArray 161)).setCells W0.heap.size 0 (ndC1 ⟨1,0,0,T⟩)=nodeW W0 ⟨1,0,0,T⟩ from rfl]
 generalize nodeW W0 ⟨1,0,0,T⟩=W1 at *
 generalize W0.heap.size=gx at *
 have c0:=bc_ 0 M1.out.gf.b rfl
 have c1:=bc_ 1 M1.out.dr.rb rfl
 have y0:W1.cell? ⟨gx,0,none⟩=some (.int .i64 1):=blk_cell (j:=0) M1.out.nd rfl
 have hmk:=make_bool ns.length hn
 go_upto_region 4 with (fail)
 clear c0 c1 y0
 go_cut [7] from 8 (fun mv wx=>∃ga gb gm,mv=.pointer (some ⟨gm,0,none⟩)∧MF B g i s ns (.slice (some ⟨gn,0,none⟩) ns.length capn) vl modes down gg gf cap gs fo ⟨1,0,0,T⟩ r gx w wx∧(r≤ga∧r≤gb∧ga≠gb)∧Bl wx ga ns.length (fun _=>false)∧Bl wx gb ns.length (fun _=>false)∧Blk wx gm 205 (mkC false (rowV ga ns.length) (rowV gb ns.length)))
 case first=>
  have RL:r≤W1.heap.size:=Nat.le_of_lt (blk_lt M1.out.r0)
  go_region
  all_goals
   go_wp2_with fail
   go_meet
   case rel=>
    first
     | exact⟨W1.heap.size,(W1.heap.size+1),(W1.heap.size+1+1),rfl,M1.out.below (three_new W1 _ _ _).1,⟨by omega,by omega,by omega⟩,(three_new W1 _ _ _).2.1,(three_new W1 _ _ _).2.2.1,(three_new W1 _ _ _).2.2.2⟩
     | exact⟨W1.heap.size,(W1.heap.size+1+1),(W1.heap.size+1),rfl,M1.out.below (three_new W1 _ _ _).1,⟨by omega,by omega,by omega⟩,(three_new W1 _ _ _).2.1,(three_new W1 _ _ _).2.2.2,(three_new W1 _ _ _).2.2.1⟩
     | exact⟨(W1.heap.size+1),W1.heap.size,(W1.heap.size+1+1),rfl,M1.out.below (three_new W1 _ _ _).1,⟨by omega,by omega,by omega⟩,(three_new W1 _ _ _).2.2.1,(three_new W1 _ _ _).2.1,(three_new W1 _ _ _).2.2.2⟩
     | exact⟨(W1.heap.size+1),(W1.heap.size+1+1),W1.heap.size,rfl,M1.out.below (three_new W1 _ _ _).1,⟨by omega,by omega,by omega⟩,(three_new W1 _ _ _).2.2.1,(three_new W1 _ _ _).2.2.2,(three_new W1 _ _ _).2.1⟩
     | exact⟨(W1.heap.size+1+1),W1.heap.size,(W1.heap.size+1),rfl,M1.out.below (three_new W1 _ _ _).1,⟨by omega,by omega,by omega⟩,(three_new W1 _ _ _).2.2.2,(three_new W1 _ _ _).2.1,(three_new W1 _ _ _).2.2.1⟩
     | exact⟨(W1.heap.size+1+1),(W1.heap.size+1),W1.heap.size,rfl,M1.out.below (three_new W1 _ _ _).1,⟨by omega,by omega,by omega⟩,(three_new W1 _ _ _).2.2.2,(three_new W1 _ _ _).2.2.1,(three_new W1 _ _ _).2.1⟩
 case rest=>
  obtain⟨ga,gb,gm,rfl,hM,⟨la,lb,ne⟩,ba,bb,bm⟩:=hcut;have m0:=bc_ 0 bm rfl;have m1:=bc_ 1 bm rfl;have m2:=bc_ 2 bm rfl;have ca:=blk_cell ba (bln_get _ hm);have cb:=blk_cell bb (bln_get _ hm);have fa:=blk_frozen ba p;have fb:=blk_frozen bb p;have z0:=bc_ 0 hM.r0 rfl;have z1:=bc_ 1 hM.r0 rfl;have z2:=bc_ 2 hM.r0 rfl;have r0:=blk_frozen hM.r0 0;have r1:=blk_frozen hM.r0 1;have r2:=blk_frozen hM.r0 2;have n1:gm≠ga:=blk_ne2 bm ba (by decide);have n2:gm≠gb:=blk_ne2 bm bb (by decide);have n3:r≠ga:=blk_ne2 hM.r0 ba (by decide);have n4:r≠gb:=blk_ne2 hM.r0 bb (by decide);have n5:ga≠gm:=fun e=>n1 e.symm
  have n6:gb≠gm:=fun e=>n2 e.symm
  have n7:ga≠r:=fun e=>n3 e.symm
  have n8:gb≠r:=fun e=>n4 e.symm
  have ne':gb≠ga:=fun e=>ne e.symm
  have FIN:Hid (∀W6,W6=(wc.setCell ⟨ga,p,none⟩ (.bool true)).setCell ⟨gb,p,none⟩ (.bool true)→(loadVar 205 ⟨r,0,none⟩).run Tryz.prog (set3 W6 r (.bool false) (rowV ga ns.length) (rowV gb ns.length))=.ok (.agg #[.bool false,rowV ga ns.length,rowV gb ns.length]) (set3 W6 r (.bool false) (rowV ga ns.length) (rowV gb ns.length))∧RetMk false (fun k=>decide (k=p)) (fun k=>decide (k=p)) gg g gf cap ns.length gs fo w (.returned (.agg #[.bool false,rowV ga ns.length,rowV gb ns.length])) (set3 W6 r (.bool false) (rowV ga ns.length) (rowV gb ns.length))):=by
   rintro W6 rfl;have g1:=Lib.grownBy_setCell wc ga p (.bool true);have g2:=Lib.grownBy_setCell (wc.setCell ⟨ga,p,none⟩ (.bool true)) gb p (.bool true);have one:bln ns.length (fun k=>decide (k=p))=bln ns.length (setB (fun _=>false) p true):=bln_congr (fun k _=>by unfold setB;by_cases e:k=p <;> simp [e]);have a1:=blk_set ba p (.bool true);have b1:=blk_grown bb g1 (fun e=>ne' (Option.some.inj e));have b2:=blk_set b1 p (.bool true);rw [bln_set,←one] at a1 b2;have hl:w.heap.size≤ga∧w.heap.size≤gb:=by have:=hM.lr;omega
   have na:ga∉gs:=fun h=>by have:=hM.up _ h;omega
   have nb:gb∉gs:=fun h=>by have:=hM.up _ h;omega
   have r1:=blk_grown hM.r0 g1 (fun e=>n3 (Option.some.inj e));exact mk_fin ((hM.gk.grownN g1 hl.1).grownN g2 hl.2) ((hM.gf.out ba (by decide) (by decide) g1 na).out b1 (by decide) (by decide) g2 nb) hM.up (blk_grown r1 g2 (fun e=>n4 (Option.some.inj e))) hM.lr hl.1 hl.2 (blk_grown a1 g2 (fun e=>ne (Option.some.inj e))) b2 false
  clear hM ba bb bm M1;go_wp2;refine bodyPost_ret (v:=.agg #[.bool false,rowV ga ns.length,rowV gb ns.length]) ?_ rfl (FIN.out _ rfl).2;simp [results,Tryz.results96,asAddr,(FIN.out _ rfl).1]
structure MA (w:World) (gs:List Nat) (n gA ga gb:Nat) (e0:Bool) (f1 f2:Nat→Bool) (W:World):Prop where
 ma:Blk W gA 205 (mkC e0 (rowV ga n) (rowV gb n))
 fa:Bl W ga n f1
 fb:Bl W gb n f2
 la:w.heap.size≤ga
 lb:w.heap.size≤gb
 lm:w.heap.size≤gA
section
variable {w W W':World} {gs:List Nat} {n gA ga gb:Nat} {e0:Bool} {f1 f2:Nat→Bool}
theorem MA.on (h:MA w gs n gA ga gb e0 f1 f2 W) (up:∀g∈gs,g<w.heap.size) (hk:Gk gs W W'):MA w gs n gA ga gb e0 f1 f2 W':=
 ⟨hk.blk h.ma (fun k=>by have:=up _ k;have:=h.lm;omega),hk.blk h.fa (fun k=>by have:=up _ k;have:=h.la;omega),hk.blk h.fb (fun k=>by have:=up _ k;have:=h.lb;omega),h.la,h.lb,h.lm⟩
theorem MA.below (h:MA w gs n gA ga gb e0 f1 f2 W) (hb:Below W.heap.size W W'):MA w gs n gA ga gb e0 f1 f2 W':=
 ⟨blk_below h.ma hb (blk_lt h.ma),blk_below h.fa hb (blk_lt h.fa),blk_below h.fb hb (blk_lt h.fb),h.la,h.lb,h.lm⟩
theorem MA.na (h:MA w gs n gA ga gb e0 f1 f2 W) (up:∀g∈gs,g<w.heap.size):ga∉gs:=fun k=>by have:=up _ k;have:=h.la;omega
theorem MA.nb (h:MA w gs n gA ga gb e0 f1 f2 W) (up:∀g∈gs,g<w.heap.size):gb∉gs:=fun k=>by have:=up _ k;have:=h.lb;omega
end
def mkW (w:World) (e:Bool) (v1 v2:Value):World:=w.alloc (.cells #[.bool e,v1,v2] 205)
theorem mkW_below (w:World) (e:Bool) (v1 v2:Value):Below w.heap.size w (mkW w e v1 v2):=bn_ _
theorem mkW_blk (w:World) (e:Bool) (v1 v2:Value):Blk (mkW w e v1 v2) w.heap.size 205 (mkC e v1 v2):=heap_alloc_new _ _
theorem un_fin {B g i:Nat} {s:ByteArray} {ns:List Pure.Nd} {vn vl:Value} {modes down:Int} {gg gf cap:Nat} {gs:List Nat} {fo fo':Nat→Nat→Bool} {x:Pure.Nd} {r gx gA ga gb:Nat} {e0:Bool} {f1 f2:Nat→Bool} {w W:World} (M:MF B g i s ns vn vl modes down gg gf cap gs fo x r gx w W) (A:MA w gs ns.length gA ga gb e0 f1 f2 W) (ne:r≠gA) (e:Bool) (hc:∀i k,i<ns.length→k<ns.length→fo i k=fo' i k) :
  (loadVar 205 ⟨r,0,none⟩).run Tryz.prog (set3 (W.setCell ⟨gA,0,none⟩ (.bool e)) r (.bool e) (rowV ga ns.length) (rowV gb ns.length))=.ok (.agg #[.bool e,rowV ga ns.length,rowV gb ns.length]) (set3 (W.setCell ⟨gA,0,none⟩ (.bool e)) r (.bool e) (rowV ga ns.length) (rowV gb ns.length))∧
  RetMk e f1 f2 gg g gf cap ns.length gs fo' w (.returned (.agg #[.bool e,rowV ga ns.length,rowV gb ns.length])) (set3 (W.setCell ⟨gA,0,none⟩ (.bool e)) r (.bool e) (rowV ga ns.length) (rowV gb ns.length)):=by
 have g1:=Lib.grownBy_setCell W gA 0 (.bool e)
 have na:gA∉gs:=fun k=>by have:=M.up _ k;have:=A.lm;omega
 exact mk_fin (M.gk.grownN g1 A.lm) (((M.gf.congr hc)).out A.ma (by decide) (by decide) g1 na) M.up (blk_grown M.r0 g1 (fun e=>ne (Option.some.inj e))) M.lr A.la A.lb (blk_grown A.fa g1 (fun e=>blk_ne2 A.fa A.ma (by decide) (Option.some.inj e))) (blk_grown A.fb g1 (fun e=>blk_ne2 A.fb A.ma (by decide) (Option.some.inj e))) e
theorem marked_un (B g i:Nat) (s:ByteArray) (ns:List Pure.Nd) (vn vl:Value) (modes down:Int) (hn:ns.length≤100000) (gg gf cap:Nat) (gs:List Nat) (fo fo2:Nat→Nat→Bool) (T:Nat→Bool) (p kd l:Nat) (e0:Bool) (f1 f2:Nat→Bool) (w:World) (hd:Dr B g s i ns vn vl modes down w) (hf:Gf w gg g gf cap ns.length gs fo) (hx:ns[p]?=some ⟨kd,l,0,T⟩) (hkd:kd=4∨kd=5∨kd=6)
  (CALL:∀W,Dr B g s i ns vn vl modes down W→Gf W gg g gf cap ns.length gs fo→Calls Tryz.prog 96 #[.pointer (some ⟨gg,0,none⟩),.int .i64 (l:Int)] W (RetMk e0 f1 f2 gg g gf cap ns.length gs fo2 W)) :
  Calls Tryz.prog 96 #[.pointer (some ⟨gg,0,none⟩),.int .i64 (p:Int)] w (RetMk (e0 || decide (kd≠5)) f1 f2 gg g gf cap ns.length gs (fun a c=>fo2 a c || (decide (kd≠6) && (f2 a && f1 c))) w):=by
 obtain⟨gn,capn,rfl,hr⟩:=(hd.below (mk0_below w)).get hx
 have hm:p<ns.length:=(List.getElem?_eq_some_iff.1 hx).1
 have i0:=nz_ p
 have i1:(p:Int)<(ns.length:Int):=by omega
 have M1:=hide (MF.new hd hf ⟨kd,l,0,T⟩)
 have C0:Hid ((mk0 w).cell? ⟨gg,0,none⟩=some (.pointer (some ⟨g,0,none⟩))):=blk_cell (j:=0) (hf.below (mk0_below w)).b rfl
 have C1:Hid ((mk0 w).cell? ⟨g,1,none⟩=some (.slice (some ⟨gn,0,none⟩) ns.length capn)):=blk_cell (j:=1) (hd.below (mk0_below w)).rb rfl
 have HR:=hide hr
 have CA:=hide CALL
 clear hr hd hx hf CALL
 go_enter Tryz.func96,Tryz.ntmps96
 go_upto_region 1 with (fail)
 rw [show w.alloc (.cells #[.bool false,.slice none 0 0,.slice none 0 0] 205)=mk0 w from rfl]
 generalize mk0 w=W0 at *
 generalize hq:w.heap.size=r at *
 have c0:W0.cell? ⟨gg,0,none⟩=some (.pointer (some ⟨g,0,none⟩)):=C0.out
 have c1:W0.cell? ⟨g,1,none⟩=some (.slice (some ⟨gn,0,none⟩) ns.length capn):=C1.out
 have zv:=node_zeroV
 clear C0 C1
 go_upto_region 2 with (first | (refine wpList_load_mid rfl 161 (.tmp 21) rfl gn (p*259) rfl _ _ HR.out Tryz.underlying161 rfl node_size ?_) | (refine wpList_store_mid rfl 161 (.tmp 5) (.tmp 22) rfl W0.heap.size 0 (ndC1 ⟨kd,l,0,T⟩).toArray rfl rfl (ndZ_there _) (ndC1_sz _) (all_oneCell_toArray (ndC1_ones _)) ?_))
 clear c0 c1 zv HR
 rw [show (W0.alloc (.cells ndZ.toArray 161)).setCells W0.heap.size 0 (ndC1 ⟨kd,l,0,T⟩)=nodeW W0 ⟨kd,l,0,T⟩ from rfl]
 generalize nodeW W0 ⟨kd,l,0,T⟩=W1 at *
 generalize W0.heap.size=gx at *
 have c0:=bc_ 0 M1.out.gf.b rfl
 have c1:=bc_ 1 M1.out.dr.rb rfl
 have y0:W1.cell? ⟨gx,0,none⟩=some (.int .i64 (kd:Int)):=blk_cell (j:=0) M1.out.nd rfl
 have y1:W1.cell? ⟨gx,1,none⟩=some (.int .i64 (l:Int)):=blk_cell (j:=1) M1.out.nd rfl
 have d1:decide ((kd:Int)=1)=false:=decide_eq_false (by omega)
 have d2:=dl_ (3:Int) (kd:Int) (by omega)
 go_wp2_with fail
 refine (CA.out _ M1.out.dr M1.out.gf).mono ?_
 clear CA c0 c1 y0 y1
 rintro e w2 ⟨ga,gb,rfl,hk2,hf2,la,lb,ba,bb⟩
 have M2:=hide ((M1.out.on hk2 hf2).below (mkW_below w2 e0 (rowV ga ns.length) (rowV gb ns.length)))
 have A2:Hid (MA w gs ns.length w2.heap.size ga gb e0 f1 f2 (mkW w2 e0 (rowV ga ns.length) (rowV gb ns.length))):=by
  have h1:=M1.out.gk.size;have hb:=mkW_below w2 e0 (rowV ga ns.length) (rowV gb ns.length);exact⟨mkW_blk _ _ _ _,blk_below ba hb (blk_lt ba),blk_below bb hb (blk_lt bb),by omega,by omega,by have:=hk2.size;omega⟩
 have NE:Hid (r≠w2.heap.size):=by have:=blk_lt M1.out.r0;have:=hk2.size;intro e;omega
 clear hk2 hf2 la lb ba bb M1
 go_upto_region 9 with (fail)
 rw [show w2.alloc (.cells #[.bool e0,rowV ga ns.length,rowV gb ns.length] 205)=mkW w2 e0 (rowV ga ns.length) (rowV gb ns.length) from rfl]
 generalize mkW w2 e0 (rowV ga ns.length) (rowV gb ns.length)=W3 at *
 generalize w2.heap.size=gA at *
 have hup:=M2.out.up
 rcases hkd with rfl | rfl | rfl
 ·skip
  have y0:W3.cell? ⟨gx,0,none⟩=some (.int .i64 4):=blk_cell (j:=0) M2.out.nd rfl;have a0:=bc_ 0 A2.out.ma rfl;have a1:=bc_ 1 A2.out.ma rfl;have a2:=bc_ 2 A2.out.ma rfl
  go_wp2_with fail
  refine (joined_any gg g gf cap ns.length gb ga gs fo2 f2 f1 W3 M2.out.gf A2.out.fb A2.out.fa (A2.out.nb hup) (A2.out.na hup) hn).mono ?_
  rintro e w4 ⟨rfl,hk4,hf4⟩;have M4:=hide (M2.out.on hk4 hf4);have A4:=hide (A2.out.on hup hk4);clear hk4 hf4 M2 A2 y0 a0 a1 a2;have y0:w4.cell? ⟨gx,0,none⟩=some (.int .i64 4):=blk_cell (j:=0) M4.out.nd rfl;have a0:=bc_ 0 A4.out.ma rfl;have a1:=bc_ 1 A4.out.ma rfl;have a2:=bc_ 2 A4.out.ma rfl;have q0:=blk_frozen A4.out.ma 0;have z0:=bc_ 0 M4.out.r0 rfl;have z1:=bc_ 1 M4.out.r0 rfl;have z2:=bc_ 2 M4.out.r0 rfl;have r0:=blk_frozen M4.out.r0 0;have r1:=blk_frozen M4.out.r0 1;have r2:=blk_frozen M4.out.r0 2;have ne1:r≠gA:=NE.out;have ne2:gA≠r:=fun e=>ne1 e.symm
  have FIN:=hide (fun e=>un_fin M4.out A4.out NE.out e (fo':=fun a c=>fo2 a c || (decide ((4:Nat)≠6) && (f2 a && f1 c))) (fun a c _ _=>by simp));clear M4 A4
  cases e0 with
  | true=>
   go_wp2;exact bodyPost_ret (by simp [results,Tryz.results96,asAddr,(FIN.out true).1]) rfl (FIN.out true).2
  | false=>
   go_wp2;exact bodyPost_ret (by simp [results,Tryz.results96,asAddr,(FIN.out true).1]) rfl (FIN.out true).2
 ·skip
  have y0:W3.cell? ⟨gx,0,none⟩=some (.int .i64 5):=blk_cell (j:=0) M2.out.nd rfl;have a0:=bc_ 0 A2.out.ma rfl;have a1:=bc_ 1 A2.out.ma rfl;have a2:=bc_ 2 A2.out.ma rfl
  go_wp2_with fail
  refine (joined_any gg g gf cap ns.length gb ga gs fo2 f2 f1 W3 M2.out.gf A2.out.fb A2.out.fa (A2.out.nb hup) (A2.out.na hup) hn).mono ?_
  rintro e w4 ⟨rfl,hk4,hf4⟩;have M4:=hide (M2.out.on hk4 hf4);have A4:=hide (A2.out.on hup hk4);clear hk4 hf4 M2 A2 y0 a0 a1 a2;have y0:w4.cell? ⟨gx,0,none⟩=some (.int .i64 5):=blk_cell (j:=0) M4.out.nd rfl;have a0:=bc_ 0 A4.out.ma rfl;have a1:=bc_ 1 A4.out.ma rfl;have a2:=bc_ 2 A4.out.ma rfl;have q0:=blk_frozen A4.out.ma 0;have z0:=bc_ 0 M4.out.r0 rfl;have z1:=bc_ 1 M4.out.r0 rfl;have z2:=bc_ 2 M4.out.r0 rfl;have r0:=blk_frozen M4.out.r0 0;have r1:=blk_frozen M4.out.r0 1;have r2:=blk_frozen M4.out.r0 2;have ne1:r≠gA:=NE.out;have ne2:gA≠r:=fun e=>ne1 e.symm
  have FIN:=hide (fun e=>un_fin M4.out A4.out NE.out e (fo':=fun a c=>fo2 a c || (decide ((5:Nat)≠6) && (f2 a && f1 c))) (fun a c _ _=>by simp));clear M4 A4
  cases e0 with
  | true=>
   go_wp2;exact bodyPost_ret (by simp [results,Tryz.results96,asAddr,(FIN.out true).1]) rfl (FIN.out true).2
  | false=>
   go_wp2;exact bodyPost_ret (by simp [results,Tryz.results96,asAddr,(FIN.out false).1]) rfl (FIN.out false).2
 ·skip
  have y0:W3.cell? ⟨gx,0,none⟩=some (.int .i64 6):=blk_cell (j:=0) M2.out.nd rfl;have a0:=bc_ 0 A2.out.ma rfl;have a1:=bc_ 1 A2.out.ma rfl;have a2:=bc_ 2 A2.out.ma rfl;have q0:=blk_frozen A2.out.ma 0;have z0:=bc_ 0 M2.out.r0 rfl;have z1:=bc_ 1 M2.out.r0 rfl;have z2:=bc_ 2 M2.out.r0 rfl;have r0:=blk_frozen M2.out.r0 0;have r1:=blk_frozen M2.out.r0 1;have r2:=blk_frozen M2.out.r0 2;have ne1:r≠gA:=NE.out;have ne2:gA≠r:=fun e=>ne1 e.symm
  have FIN:=hide (fun e=>un_fin M2.out A2.out NE.out e (fo':=fun a c=>fo2 a c || (decide ((6:Nat)≠6) && (f2 a && f1 c))) (fun a c _ _=>by simp));clear M2 A2
  cases e0 with
  | true=>
   go_wp2;exact bodyPost_ret (by simp [results,Tryz.results96,asAddr,(FIN.out true).1]) rfl (FIN.out true).2
  | false=>
   go_wp2;exact bodyPost_ret (by simp [results,Tryz.results96,asAddr,(FIN.out true).1]) rfl (FIN.out true).2
section
variable {gs:List Nat} {w W W':World} {gg gr gf cap n:Nat} {fo:Nat→Nat→Bool}
theorem mk_fin2 {r gM gc gd:Nat} {f1 f2:Nat→Bool} {x y z a b c:Value} (hk:Gk gs w W) (hf:Gf W gg gr gf cap n gs fo) (up:∀g∈gs,g<w.heap.size) (hr:Blk W r 205 [x,y,z]) (lr:w.heap.size≤r) (lc:w.heap.size≤gc) (ld:w.heap.size≤gd) (bc:Bl W gc n f1) (bd:Bl W gd n f2) (hM:Blk W gM 205 [a,b,c]) (lM:w.heap.size≤gM) (ne:r≠gM) (hg:W.grownBy W' (some gM)) (e:Bool) :
  (loadVar 205 ⟨r,0,none⟩).run Tryz.prog (set3 W' r (.bool e) (rowV gc n) (rowV gd n))=.ok (.agg #[.bool e,rowV gc n,rowV gd n]) (set3 W' r (.bool e) (rowV gc n) (rowV gd n))∧
  RetMk e f1 f2 gg gr gf cap n gs fo w (.returned (.agg #[.bool e,rowV gc n,rowV gd n])) (set3 W' r (.bool e) (rowV gc n) (rowV gd n)):=by
 have na:gM∉gs:=fun k=>by have:=up _ k;omega
 exact mk_fin (hk.grownN hg lM) (hf.out hM (by decide) (by decide) hg na) up (blk_grown hr hg (fun e=>ne (Option.some.inj e))) lr lc ld (blk_grown bc hg (fun e=>blk_ne2 bc hM (by decide) (Option.some.inj e))) (blk_grown bd hg (fun e=>blk_ne2 bd hM (by decide) (Option.some.inj e))) e
end
theorem RetMk.congr {e0:Bool} {f1 f2 f1' f2':Nat→Bool} {gg gr gf cap n:Nat} {gs:List Nat} {fo:Nat→Nat→Bool} {w w':World} {e:Ending} (h:RetMk e0 f1 f2 gg gr gf cap n gs fo w e w') (c1:∀k,f1 k=f1' k) (c2:∀k,f2 k=f2' k):RetMk e0 f1' f2' gg gr gf cap n gs fo w e w':=by
 rw [show f1'=f1 from funext (fun k=>(c1 k).symm),show f2'=f2 from funext (fun k=>(c2 k).symm)]
 exact h
theorem marked_alt (B g i:Nat) (s:ByteArray) (ns:List Pure.Nd) (vn vl:Value) (modes down:Int) (hn:ns.length≤100000) (gg gf cap:Nat) (gs:List Nat) (fo fo2 fo3:Nat→Nat→Bool) (T:Nat→Bool) (p l rr:Nat) (e0 e1:Bool) (f1 f2 h1 h2:Nat→Bool) (w:World) (hd:Dr B g s i ns vn vl modes down w) (hf:Gf w gg g gf cap ns.length gs fo) (hx:ns[p]?=some ⟨3,l,rr,T⟩)
  (CALLA:∀W,Dr B g s i ns vn vl modes down W→Gf W gg g gf cap ns.length gs fo→Calls Tryz.prog 96 #[.pointer (some ⟨gg,0,none⟩),.int .i64 (l:Int)] W (RetMk e0 f1 f2 gg g gf cap ns.length gs fo2 W))
  (CALLB:∀W,Dr B g s i ns vn vl modes down W→Gf W gg g gf cap ns.length gs fo2→Calls Tryz.prog 96 #[.pointer (some ⟨gg,0,none⟩),.int .i64 (rr:Int)] W (RetMk e1 h1 h2 gg g gf cap ns.length gs fo3 W)) :
  Calls Tryz.prog 96 #[.pointer (some ⟨gg,0,none⟩),.int .i64 (p:Int)] w (RetMk (e0 || e1) (fun k=>f1 k || h1 k) (fun k=>f2 k || h2 k) gg g gf cap ns.length gs fo3 w):=by
 obtain⟨gn,capn,rfl,hr⟩:=(hd.below (mk0_below w)).get hx
 have hm:p<ns.length:=(List.getElem?_eq_some_iff.1 hx).1
 have i0:=nz_ p
 have i1:(p:Int)<(ns.length:Int):=by omega
 have M1:=hide (MF.new hd hf ⟨3,l,rr,T⟩)
 have C0:Hid ((mk0 w).cell? ⟨gg,0,none⟩=some (.pointer (some ⟨g,0,none⟩))):=blk_cell (j:=0) (hf.below (mk0_below w)).b rfl
 have C1:Hid ((mk0 w).cell? ⟨g,1,none⟩=some (.slice (some ⟨gn,0,none⟩) ns.length capn)):=blk_cell (j:=1) (hd.below (mk0_below w)).rb rfl
 have HR:=hide hr
 have CA:=hide CALLA
 have CB:=hide CALLB
 clear hr hd hx hf CALLA CALLB
 go_enter Tryz.func96,Tryz.ntmps96
 go_upto_region 1 with (fail)
 rw [show w.alloc (.cells #[.bool false,.slice none 0 0,.slice none 0 0] 205)=mk0 w from rfl]
 generalize mk0 w=W0 at *
 generalize hq:w.heap.size=r at *
 have c0:W0.cell? ⟨gg,0,none⟩=some (.pointer (some ⟨g,0,none⟩)):=C0.out
 have c1:W0.cell? ⟨g,1,none⟩=some (.slice (some ⟨gn,0,none⟩) ns.length capn):=C1.out
 have zv:=node_zeroV
 clear C0 C1
 go_upto_region 2 with (first | (refine wpList_load_mid rfl 161 (.tmp 21) rfl gn (p*259) rfl _ _ HR.out Tryz.underlying161 rfl node_size ?_) | (refine wpList_store_mid rfl 161 (.tmp 5) (.tmp 22) rfl W0.heap.size 0 (ndC1 ⟨3,l,rr,T⟩).toArray rfl rfl (ndZ_there _) (ndC1_sz _) (all_oneCell_toArray (ndC1_ones _)) ?_))
 clear c0 c1 zv HR
 rw [show (W0.alloc (.cells ndZ.toArray 161)).setCells W0.heap.size 0 (ndC1 ⟨3,l,rr,T⟩)=nodeW W0 ⟨3,l,rr,T⟩ from rfl]
 generalize nodeW W0 ⟨3,l,rr,T⟩=W1 at *
 generalize W0.heap.size=gx at *
 have c0:=bc_ 0 M1.out.gf.b rfl
 have c1:=bc_ 1 M1.out.dr.rb rfl
 have y0:W1.cell? ⟨gx,0,none⟩=some (.int .i64 3):=blk_cell (j:=0) M1.out.nd rfl
 have y1:W1.cell? ⟨gx,1,none⟩=some (.int .i64 (l:Int)):=blk_cell (j:=1) M1.out.nd rfl
 have d1:decide ((3:Int)=1)=false:=decide_eq_false (by omega)
 have d2:=df_ (3:Int) (3:Int) (by omega)
 go_wp2_with fail
 refine (CA.out _ M1.out.dr M1.out.gf).mono ?_
 clear CA c0 c1 y0 y1
 rintro e w2 ⟨ga,gb,rfl,hk2,hf2,la,lb,ba,bb⟩
 have M2:=hide ((M1.out.on hk2 hf2).below (mkW_below w2 e0 (rowV ga ns.length) (rowV gb ns.length)))
 have A2:Hid (MA w gs ns.length w2.heap.size ga gb e0 f1 f2 (mkW w2 e0 (rowV ga ns.length) (rowV gb ns.length))):=by
  have h1:=M1.out.gk.size;have hb:=mkW_below w2 e0 (rowV ga ns.length) (rowV gb ns.length);exact⟨mkW_blk _ _ _ _,blk_below ba hb (blk_lt ba),blk_below bb hb (blk_lt bb),by omega,by omega,by have:=hk2.size;omega⟩
 have NE:Hid (r≠w2.heap.size):=by have:=blk_lt M1.out.r0;have:=hk2.size;intro e;omega
 clear hk2 hf2 la lb ba bb M1
 go_upto_region 9 with (fail)
 rw [show w2.alloc (.cells #[.bool e0,rowV ga ns.length,rowV gb ns.length] 205)=mkW w2 e0 (rowV ga ns.length) (rowV gb ns.length) from rfl]
 generalize mkW w2 e0 (rowV ga ns.length) (rowV gb ns.length)=W3 at *
 generalize w2.heap.size=gA at *
 have hup:=M2.out.up
 have y0:W3.cell? ⟨gx,0,none⟩=some (.int .i64 3):=blk_cell (j:=0) M2.out.nd rfl
 have y2:W3.cell? ⟨gx,2,none⟩=some (.int .i64 (rr:Int)):=blk_cell (j:=2) M2.out.nd rfl
 go_wp2_with fail
 refine (CB.out _ M2.out.dr M2.out.gf).mono ?_
 clear CB y0 y2
 rintro e w4 ⟨gc,gd,rfl,hk4,hf4,lc,ld,bc,bd⟩
 have M5:=hide ((M2.out.on hk4 hf4).below (mkW_below w4 e1 (rowV gc ns.length) (rowV gd ns.length)))
 have A5:=hide ((A2.out.on hup hk4).below (mkW_below w4 e1 (rowV gc ns.length) (rowV gd ns.length)))
 have B5:Hid (MA w gs ns.length w4.heap.size gc gd e1 h1 h2 (mkW w4 e1 (rowV gc ns.length) (rowV gd ns.length))):=by
  have k1:=M2.out.gk.size;have hb:=mkW_below w4 e1 (rowV gc ns.length) (rowV gd ns.length);exact⟨mkW_blk _ _ _ _,blk_below bc hb (blk_lt bc),blk_below bd hb (blk_lt bd),by omega,by omega,by have:=hk4.size;omega⟩
 clear hk4 hf4 lc ld bc bd M2 A2
 go_upto_region 15 with (fail)
 rw [show w4.alloc (.cells #[.bool e1,rowV gc ns.length,rowV gd ns.length] 205)=mkW w4 e1 (rowV gc ns.length) (rowV gd ns.length) from rfl]
 generalize mkW w4 e1 (rowV gc ns.length) (rowV gd ns.length)=W5 at *
 generalize w4.heap.size=gB at *
 have y0:W5.cell? ⟨gx,0,none⟩=some (.int .i64 3):=blk_cell (j:=0) M5.out.nd rfl
 have a0:=bc_ 0 A5.out.ma rfl
 have a1:=bc_ 1 A5.out.ma rfl
 have a2:=bc_ 2 A5.out.ma rfl
 have b0:=bc_ 0 B5.out.ma rfl
 have b1:=bc_ 1 B5.out.ma rfl
 have b2:=bc_ 2 B5.out.ma rfl
 go_wp2_with fail
 refine (both_any ns.length ga gc f1 h1 W5 A5.out.fa B5.out.fa hn).mono ?_
 rintro e w6 ⟨g1,rfl,hb6,l6,b6⟩
 have M6:=hide (M5.out.below hb6)
 have A6:=hide (A5.out.below hb6)
 have B6:=hide (B5.out.below hb6)
 have L6:Hid (w.heap.size≤g1):=by have:=M5.out.gk.size;show _≤_;omega
 have C6:=hide b6
 clear hb6 l6 b6 M5 A5 B5 y0 a0 a1 a2 b0 b1 b2
 have y0:w6.cell? ⟨gx,0,none⟩=some (.int .i64 3):=blk_cell (j:=0) M6.out.nd rfl
 have a0:=bc_ 0 A6.out.ma rfl
 have a1:=bc_ 1 A6.out.ma rfl
 have a2:=bc_ 2 A6.out.ma rfl
 have b0:=bc_ 0 B6.out.ma rfl
 have b1:=bc_ 1 B6.out.ma rfl
 have b2:=bc_ 2 B6.out.ma rfl
 go_wp2_with fail
 refine (both_any ns.length gb gd f2 h2 w6 A6.out.fb B6.out.fb hn).mono ?_
 rintro e w7 ⟨g2,rfl,hb7,l7,b7⟩
 have M7:=hide (M6.out.below hb7)
 have A7:=hide (A6.out.below hb7)
 have B7:=hide (B6.out.below hb7)
 have L7:Hid (w.heap.size≤g2):=by have:=M6.out.gk.size;show _≤_;omega
 have C7:=hide (blk_below C6.out hb7 (blk_lt C6.out))
 have D7:=hide b7
 clear hb7 l7 b7 M6 A6 B6 C6 y0 a0 a1 a2 b0 b1 b2
 have y0:w7.cell? ⟨gx,0,none⟩=some (.int .i64 3):=blk_cell (j:=0) M7.out.nd rfl
 have a0:=bc_ 0 A7.out.ma rfl
 have a1:=bc_ 1 A7.out.ma rfl
 have a2:=bc_ 2 A7.out.ma rfl
 have b0:=bc_ 0 B7.out.ma rfl
 have b1:=bc_ 1 B7.out.ma rfl
 have b2:=bc_ 2 B7.out.ma rfl
 have z0:=bc_ 0 M7.out.r0 rfl
 have z1:=bc_ 1 M7.out.r0 rfl
 have z2:=bc_ 2 M7.out.r0 rfl
 have r0:=blk_frozen M7.out.r0 0
 have r1:=blk_frozen M7.out.r0 1
 have r2:=blk_frozen M7.out.r0 2
 have FIN:=hide (fun e=>mk_fin M7.out.gk M7.out.gf M7.out.up M7.out.r0 M7.out.lr L6.out L7.out C7.out D7.out e)
 clear M7 A7 B7 C7 D7
 cases e0 with
 | true=>
  go_wp2;exact bodyPost_ret (by simp [results,Tryz.results96,asAddr,(FIN.out true).1]) rfl (FIN.out true).2
 | false=>
  go_wp2;exact bodyPost_ret (by simp [results,Tryz.results96,asAddr,(FIN.out e1).1]) rfl (FIN.out e1).2
theorem marked_cat (B g i:Nat) (s:ByteArray) (ns:List Pure.Nd) (vn vl:Value) (modes down:Int) (hn:ns.length≤100000) (gg gf cap:Nat) (gs:List Nat) (fo fo2 fo3:Nat→Nat→Bool) (T:Nat→Bool) (p l rr:Nat) (e0 e1:Bool) (f1 f2 h1 h2:Nat→Bool) (w:World) (hd:Dr B g s i ns vn vl modes down w) (hf:Gf w gg g gf cap ns.length gs fo) (hx:ns[p]?=some ⟨2,l,rr,T⟩)
  (CALLA:∀W,Dr B g s i ns vn vl modes down W→Gf W gg g gf cap ns.length gs fo→Calls Tryz.prog 96 #[.pointer (some ⟨gg,0,none⟩),.int .i64 (l:Int)] W (RetMk e0 f1 f2 gg g gf cap ns.length gs fo2 W))
  (CALLB:∀W,Dr B g s i ns vn vl modes down W→Gf W gg g gf cap ns.length gs fo2→Calls Tryz.prog 96 #[.pointer (some ⟨gg,0,none⟩),.int .i64 (rr:Int)] W (RetMk e1 h1 h2 gg g gf cap ns.length gs fo3 W)) :
  Calls Tryz.prog 96 #[.pointer (some ⟨gg,0,none⟩),.int .i64 (p:Int)] w (RetMk (e0 && e1) (fun k=>f1 k || (e0 && h1 k)) (fun k=>h2 k || (e1 && f2 k)) gg g gf cap ns.length gs (fun a c=>fo3 a c || (f2 a && h1 c)) w):=by
 obtain⟨gn,capn,rfl,hr⟩:=(hd.below (mk0_below w)).get hx
 have hm:p<ns.length:=(List.getElem?_eq_some_iff.1 hx).1
 have i0:=nz_ p
 have i1:(p:Int)<(ns.length:Int):=by omega
 have M1:=hide (MF.new hd hf ⟨2,l,rr,T⟩)
 have C0:Hid ((mk0 w).cell? ⟨gg,0,none⟩=some (.pointer (some ⟨g,0,none⟩))):=blk_cell (j:=0) (hf.below (mk0_below w)).b rfl
 have C1:Hid ((mk0 w).cell? ⟨g,1,none⟩=some (.slice (some ⟨gn,0,none⟩) ns.length capn)):=blk_cell (j:=1) (hd.below (mk0_below w)).rb rfl
 have HR:=hide hr
 have CA:=hide CALLA
 have CB:=hide CALLB
 clear hr hd hx hf CALLA CALLB
 go_enter Tryz.func96,Tryz.ntmps96
 go_upto_region 1 with (fail)
 rw [show w.alloc (.cells #[.bool false,.slice none 0 0,.slice none 0 0] 205)=mk0 w from rfl]
 generalize mk0 w=W0 at *
 generalize hq:w.heap.size=r at *
 have c0:W0.cell? ⟨gg,0,none⟩=some (.pointer (some ⟨g,0,none⟩)):=C0.out
 have c1:W0.cell? ⟨g,1,none⟩=some (.slice (some ⟨gn,0,none⟩) ns.length capn):=C1.out
 have zv:=node_zeroV
 clear C0 C1
 go_upto_region 2 with (first | (refine wpList_load_mid rfl 161 (.tmp 21) rfl gn (p*259) rfl _ _ HR.out Tryz.underlying161 rfl node_size ?_) | (refine wpList_store_mid rfl 161 (.tmp 5) (.tmp 22) rfl W0.heap.size 0 (ndC1 ⟨2,l,rr,T⟩).toArray rfl rfl (ndZ_there _) (ndC1_sz _) (all_oneCell_toArray (ndC1_ones _)) ?_))
 clear c0 c1 zv HR
 rw [show (W0.alloc (.cells ndZ.toArray 161)).setCells W0.heap.size 0 (ndC1 ⟨2,l,rr,T⟩)=nodeW W0 ⟨2,l,rr,T⟩ from rfl]
 generalize nodeW W0 ⟨2,l,rr,T⟩=W1 at *
 generalize W0.heap.size=gx at *
 have c0:=bc_ 0 M1.out.gf.b rfl
 have c1:=bc_ 1 M1.out.dr.rb rfl
 have y0:W1.cell? ⟨gx,0,none⟩=some (.int .i64 2):=blk_cell (j:=0) M1.out.nd rfl
 have y1:W1.cell? ⟨gx,1,none⟩=some (.int .i64 (l:Int)):=blk_cell (j:=1) M1.out.nd rfl
 have d1:decide ((2:Int)=1)=false:=decide_eq_false (by omega)
 have d2:=df_ (3:Int) (2:Int) (by omega)
 go_wp2_with fail
 refine (CA.out _ M1.out.dr M1.out.gf).mono ?_
 clear CA c0 c1 y0 y1
 rintro e w2 ⟨ga,gb,rfl,hk2,hf2,la,lb,ba,bb⟩
 have M2:=hide ((M1.out.on hk2 hf2).below (mkW_below w2 e0 (rowV ga ns.length) (rowV gb ns.length)))
 have A2:Hid (MA w gs ns.length w2.heap.size ga gb e0 f1 f2 (mkW w2 e0 (rowV ga ns.length) (rowV gb ns.length))):=by
  have h1:=M1.out.gk.size;have hb:=mkW_below w2 e0 (rowV ga ns.length) (rowV gb ns.length);exact⟨mkW_blk _ _ _ _,blk_below ba hb (blk_lt ba),blk_below bb hb (blk_lt bb),by omega,by omega,by have:=hk2.size;omega⟩
 have NE:Hid (r≠w2.heap.size):=by have:=blk_lt M1.out.r0;have:=hk2.size;intro e;omega
 clear hk2 hf2 la lb ba bb M1
 go_upto_region 9 with (fail)
 rw [show w2.alloc (.cells #[.bool e0,rowV ga ns.length,rowV gb ns.length] 205)=mkW w2 e0 (rowV ga ns.length) (rowV gb ns.length) from rfl]
 generalize mkW w2 e0 (rowV ga ns.length) (rowV gb ns.length)=W3 at *
 generalize w2.heap.size=gA at *
 have hup:=M2.out.up
 have y0:W3.cell? ⟨gx,0,none⟩=some (.int .i64 2):=blk_cell (j:=0) M2.out.nd rfl
 have y2:W3.cell? ⟨gx,2,none⟩=some (.int .i64 (rr:Int)):=blk_cell (j:=2) M2.out.nd rfl
 go_wp2_with fail
 refine (CB.out _ M2.out.dr M2.out.gf).mono ?_
 clear CB y0 y2
 rintro e w4 ⟨gc,gd,rfl,hk4,hf4,lc,ld,bc,bd⟩
 have M5:=hide ((M2.out.on hk4 hf4).below (mkW_below w4 e1 (rowV gc ns.length) (rowV gd ns.length)))
 have A5:=hide ((A2.out.on hup hk4).below (mkW_below w4 e1 (rowV gc ns.length) (rowV gd ns.length)))
 have B5:Hid (MA w gs ns.length w4.heap.size gc gd e1 h1 h2 (mkW w4 e1 (rowV gc ns.length) (rowV gd ns.length))):=by
  have k1:=M2.out.gk.size;have hb:=mkW_below w4 e1 (rowV gc ns.length) (rowV gd ns.length);exact⟨mkW_blk _ _ _ _,blk_below bc hb (blk_lt bc),blk_below bd hb (blk_lt bd),by omega,by omega,by have:=hk4.size;omega⟩
 clear hk4 hf4 lc ld bc bd M2 A2
 go_upto_region 15 with (fail)
 rw [show w4.alloc (.cells #[.bool e1,rowV gc ns.length,rowV gd ns.length] 205)=mkW w4 e1 (rowV gc ns.length) (rowV gd ns.length) from rfl]
 generalize mkW w4 e1 (rowV gc ns.length) (rowV gd ns.length)=W5 at *
 generalize w4.heap.size=gB at *
 have y0:W5.cell? ⟨gx,0,none⟩=some (.int .i64 2):=blk_cell (j:=0) M5.out.nd rfl
 have a0:=bc_ 0 A5.out.ma rfl
 have a1:=bc_ 1 A5.out.ma rfl
 have a2:=bc_ 2 A5.out.ma rfl
 have b0:=bc_ 0 B5.out.ma rfl
 have b1:=bc_ 1 B5.out.ma rfl
 have b2:=bc_ 2 B5.out.ma rfl
 go_wp2_with fail
 refine (joined_any gg g gf cap ns.length gb gc gs fo3 f2 h1 W5 M5.out.gf A5.out.fb B5.out.fa (A5.out.nb hup) (B5.out.na hup) hn).mono ?_
 rintro e w6 ⟨rfl,hk6,hf6⟩
 have E6:Hid (w.heap.size≤w6.heap.size∧r<w6.heap.size∧ga<w6.heap.size):=by
  have:=hk6.size;have:=M5.out.gk.size;have:=blk_lt M5.out.r0;have:=blk_lt A5.out.fa;exact⟨by omega,by omega,by omega⟩
 have hbw:=mkW_below w6 (e0 && e1) (rowV ga ns.length) (rowV gd ns.length)
 have M6:=hide (M5.out.on hk6 hf6)
 have A6:=hide (A5.out.on hup hk6)
 have B6:=hide (B5.out.on hup hk6)
 have M7:=hide (M6.out.below hbw)
 have A7:=hide (A6.out.below hbw)
 have B7:=hide (B6.out.below hbw)
 have K7:Hid (Blk (mkW w6 (e0 && e1) (rowV ga ns.length) (rowV gd ns.length)) w6.heap.size 205 (mkC (e0 && e1) (rowV ga ns.length) (rowV gd ns.length))):=mkW_blk _ _ _ _
 clear hk6 hf6 hbw M5 A5 B5 y0 a0 a1 a2 b0 b1 b2
 have y0:w6.cell? ⟨gx,0,none⟩=some (.int .i64 2):=blk_cell (j:=0) M6.out.nd rfl
 have a0:=bc_ 0 A6.out.ma rfl
 have a1:=bc_ 1 A6.out.ma rfl
 have a2:=bc_ 2 A6.out.ma rfl
 have b0:=bc_ 0 B6.out.ma rfl
 have b1:=bc_ 1 B6.out.ma rfl
 have b2:=bc_ 2 B6.out.ma rfl
 have NAM:Hid (gA≠w6.heap.size):=by have:=blk_lt A6.out.ma;intro e;omega
 have NBM:Hid (gB≠w6.heap.size):=by have:=blk_lt B6.out.ma;intro e;omega
 have LR:Hid (w.heap.size≤r):=M6.out.lr
 have LD:Hid (w.heap.size≤gd):=B6.out.lb
 clear M6 A6 B6
 cases e0 with
 | true=>
  cases e1 with
  | true=>
   go_upto_region 21 with (fail);rw [show w6.alloc (.cells #[.bool true,rowV ga ns.length,rowV gd ns.length] 205)=mkW w6 (true && true) (rowV ga ns.length) (rowV gd ns.length) from rfl];generalize mkW w6 (true && true) (rowV ga ns.length) (rowV gd ns.length)=W7 at *;generalize w6.heap.size=gM at *;clear y0 a0 a1 a2 b0 b1 b2;have a0:=bc_ 0 A7.out.ma rfl;have a1:=bc_ 1 A7.out.ma rfl;have a2:=bc_ 2 A7.out.ma rfl;have b0:=bc_ 0 B7.out.ma rfl;have b1:=bc_ 1 B7.out.ma rfl;have b2:=bc_ 2 B7.out.ma rfl;have m0:=bc_ 0 K7.out rfl;have m1:=bc_ 1 K7.out rfl;have m2:=bc_ 2 K7.out rfl;have q1:=blk_frozen K7.out 1;have q2:=blk_frozen K7.out 2
   go_wp2_with fail
   refine (both_any ns.length ga gc f1 h1 W7 A7.out.fa B7.out.fa hn).mono ?_
   rintro e w8 ⟨g1,rfl,hb8,l8,b8⟩;have L8:Hid (w.heap.size≤g1):=by have:=M7.out.gk.size;show _≤_;omega
   have N8:=hide (show gM≠g1 by have:=blk_lt K7.out;omega);have M8:=hide (M7.out.below hb8);have A8:=hide (A7.out.below hb8);have B8:=hide (B7.out.below hb8);have g8:=Lib.grownBy_setCell w8 gM 1 (rowV g1 ns.length);have K8':=hide (blk_below K7.out hb8 (blk_lt K7.out));have K8:Hid (Blk (w8.setCell ⟨gM,1,none⟩ (rowV g1 ns.length)) gM 205 (mkC (true && true) (rowV g1 ns.length) (rowV gd ns.length))):=blk_set K8'.out 1 _;have nM:gM∉gs:=fun k=>by have:=hup _ k;have:=E6.out.1;omega
   have R8:Hid (Blk (w8.setCell ⟨gM,1,none⟩ (rowV g1 ns.length)) r 205 (mkC false (.slice none 0 0) (.slice none 0 0))):=blk_grown M8.out.r0 g8 (fun e=>by have:=Option.some.inj e;have:=E6.out.2.1;omega);have X8:Hid (Gk gs w (w8.setCell ⟨gM,1,none⟩ (rowV g1 ns.length))∧Gf (w8.setCell ⟨gM,1,none⟩ (rowV g1 ns.length)) gg g gf cap ns.length gs (fun i k=>fo3 i k || (f2 i && h1 k))):=⟨M8.out.gk.grownN g8 E6.out.1,M8.out.gf.out K8'.out (by decide) (by decide) g8 nM⟩;have P8:Hid (Bl (w8.setCell ⟨gM,1,none⟩ (rowV g1 ns.length)) g1 ns.length (fun k=>f1 k || h1 k)∧Bl (w8.setCell ⟨gM,1,none⟩ (rowV g1 ns.length)) gb ns.length f2∧Bl (w8.setCell ⟨gM,1,none⟩ (rowV g1 ns.length)) gd ns.length h2):=⟨blk_grown b8 g8 (fun e=>blk_ne2 b8 K8'.out (by decide) (Option.some.inj e)),blk_grown A8.out.fb g8 (fun e=>blk_ne2 A8.out.fb K8'.out (by decide) (Option.some.inj e)),blk_grown B8.out.fb g8 (fun e=>blk_ne2 B8.out.fb K8'.out (by decide) (Option.some.inj e))⟩;have QA:Hid (Blk (w8.setCell ⟨gM,1,none⟩ (rowV g1 ns.length)) gA 205 (mkC true (rowV ga ns.length) (rowV gb ns.length))):=blk_grown A8.out.ma g8 (fun e=>NAM.out (Option.some.inj e));have QB:Hid (Blk (w8.setCell ⟨gM,1,none⟩ (rowV g1 ns.length)) gB 205 (mkC true (rowV gc ns.length) (rowV gd ns.length))):=blk_grown B8.out.ma g8 (fun e=>NBM.out (Option.some.inj e));have q8:=blk_frozen K8'.out 1;have k81:=bc_ 1 K8'.out rfl;clear a0 a1 a2 b0 b1 b2 m0 m1 m2 q1 q2 hb8 l8 b8 M7 A7 B7 K7 M8 A8 B8 K8' g8;go_upto_region 23 with (fail);generalize w8.setCell ⟨gM,1,none⟩ (rowV g1 ns.length)=W9 at *;clear q8 k81;have a0:=bc_ 0 QA.out rfl;have a1:=bc_ 1 QA.out rfl;have a2:=bc_ 2 QA.out rfl;have b0:=bc_ 0 QB.out rfl;have b1:=bc_ 1 QB.out rfl;have b2:=bc_ 2 QB.out rfl
   go_wp2_with fail
   refine (both_any ns.length gb gd f2 h2 W9 P8.out.2.1 P8.out.2.2 hn).mono ?_
   rintro e w10 ⟨g2,rfl,hb10,l10,b10⟩;have L10:Hid (w.heap.size≤g2):=by have:=X8.out.1.size;show _≤_;omega
   have K10:=hide (blk_below K8.out hb10 (blk_lt K8.out));have R10:=hide (blk_below R8.out hb10 (blk_lt R8.out));have F10:=hide (blk_below P8.out.1 hb10 (blk_lt P8.out.1));have g10:=Lib.grownBy_setCell w10 gM 2 (rowV g2 ns.length);have FIN:=hide (mk_fin2 (X8.out.1.trans (.below hb10)) (X8.out.2.below hb10) hup R10.out LR.out L8.out L10.out F10.out b10 K10.out E6.out.1 (by have:=E6.out.2.1;omega) g10 true);have m0:=bc_ 0 K10.out rfl;have m1:=bc_ 1 K10.out rfl;have m2:=bc_ 2 K10.out rfl;have q2:=blk_frozen K10.out 2;have z0:=bc_ 0 R10.out rfl;have z1:=bc_ 1 R10.out rfl;have z2:=bc_ 2 R10.out rfl;have r0:=blk_frozen R10.out 0;have r1:=blk_frozen R10.out 1;have r2:=blk_frozen R10.out 2;have ne1:r≠gM:=by have:=E6.out.2.1;omega
   have ne2:gM≠r:=fun e=>ne1 e.symm
   clear a0 a1 a2 b0 b1 b2 hb10 l10 b10 K8 R8 P8 X8 K10 R10 F10 g10 QA QB;go_wp2;exact bodyPost_ret (by simp [results,Tryz.results96,asAddr,FIN.out.1]) rfl (RetMk.congr FIN.out.2 (fun k=>by simp) (fun k=>by simp [Bool.or_comm]))
  | false=>
   go_upto_region 21 with (fail);rw [show w6.alloc (.cells #[.bool false,rowV ga ns.length,rowV gd ns.length] 205)=mkW w6 (true && false) (rowV ga ns.length) (rowV gd ns.length) from rfl];generalize mkW w6 (true && false) (rowV ga ns.length) (rowV gd ns.length)=W7 at *;generalize w6.heap.size=gM at *;clear y0 a0 a1 a2 b0 b1 b2;have a0:=bc_ 0 A7.out.ma rfl;have a1:=bc_ 1 A7.out.ma rfl;have a2:=bc_ 2 A7.out.ma rfl;have b0:=bc_ 0 B7.out.ma rfl;have b1:=bc_ 1 B7.out.ma rfl;have b2:=bc_ 2 B7.out.ma rfl;have m0:=bc_ 0 K7.out rfl;have m1:=bc_ 1 K7.out rfl;have m2:=bc_ 2 K7.out rfl;have q1:=blk_frozen K7.out 1;have q2:=blk_frozen K7.out 2
   go_wp2_with fail
   refine (both_any ns.length ga gc f1 h1 W7 A7.out.fa B7.out.fa hn).mono ?_
   rintro e w8 ⟨g1,rfl,hb8,l8,b8⟩;have L8:Hid (w.heap.size≤g1):=by have:=M7.out.gk.size;show _≤_;omega
   have N8:=hide (show gM≠g1 by have:=blk_lt K7.out;omega);have M8:=hide (M7.out.below hb8);have A8:=hide (A7.out.below hb8);have B8:=hide (B7.out.below hb8);have g8:=Lib.grownBy_setCell w8 gM 1 (rowV g1 ns.length);have K8':=hide (blk_below K7.out hb8 (blk_lt K7.out));have K8:Hid (Blk (w8.setCell ⟨gM,1,none⟩ (rowV g1 ns.length)) gM 205 (mkC (true && false) (rowV g1 ns.length) (rowV gd ns.length))):=blk_set K8'.out 1 _;have nM:gM∉gs:=fun k=>by have:=hup _ k;have:=E6.out.1;omega
   have R8:Hid (Blk (w8.setCell ⟨gM,1,none⟩ (rowV g1 ns.length)) r 205 (mkC false (.slice none 0 0) (.slice none 0 0))):=blk_grown M8.out.r0 g8 (fun e=>by have:=Option.some.inj e;have:=E6.out.2.1;omega);have X8:Hid (Gk gs w (w8.setCell ⟨gM,1,none⟩ (rowV g1 ns.length))∧Gf (w8.setCell ⟨gM,1,none⟩ (rowV g1 ns.length)) gg g gf cap ns.length gs (fun i k=>fo3 i k || (f2 i && h1 k))):=⟨M8.out.gk.grownN g8 E6.out.1,M8.out.gf.out K8'.out (by decide) (by decide) g8 nM⟩;have P8:Hid (Bl (w8.setCell ⟨gM,1,none⟩ (rowV g1 ns.length)) g1 ns.length (fun k=>f1 k || h1 k)∧Bl (w8.setCell ⟨gM,1,none⟩ (rowV g1 ns.length)) gb ns.length f2∧Bl (w8.setCell ⟨gM,1,none⟩ (rowV g1 ns.length)) gd ns.length h2):=⟨blk_grown b8 g8 (fun e=>blk_ne2 b8 K8'.out (by decide) (Option.some.inj e)),blk_grown A8.out.fb g8 (fun e=>blk_ne2 A8.out.fb K8'.out (by decide) (Option.some.inj e)),blk_grown B8.out.fb g8 (fun e=>blk_ne2 B8.out.fb K8'.out (by decide) (Option.some.inj e))⟩;have QA:Hid (Blk (w8.setCell ⟨gM,1,none⟩ (rowV g1 ns.length)) gA 205 (mkC true (rowV ga ns.length) (rowV gb ns.length))):=blk_grown A8.out.ma g8 (fun e=>NAM.out (Option.some.inj e));have QB:Hid (Blk (w8.setCell ⟨gM,1,none⟩ (rowV g1 ns.length)) gB 205 (mkC false (rowV gc ns.length) (rowV gd ns.length))):=blk_grown B8.out.ma g8 (fun e=>NBM.out (Option.some.inj e));have q8:=blk_frozen K8'.out 1;have k81:=bc_ 1 K8'.out rfl;clear a0 a1 a2 b0 b1 b2 m0 m1 m2 q1 q2 hb8 l8 b8 M7 A7 B7 K7 M8 A8 B8 K8' g8;go_upto_region 23 with (fail);generalize w8.setCell ⟨gM,1,none⟩ (rowV g1 ns.length)=W9 at *;clear q8 k81;have a0:=bc_ 0 QA.out rfl;have a1:=bc_ 1 QA.out rfl;have a2:=bc_ 2 QA.out rfl;have b0:=bc_ 0 QB.out rfl;have b1:=bc_ 1 QB.out rfl;have b2:=bc_ 2 QB.out rfl;have FIN:=hide (mk_fin X8.out.1 X8.out.2 hup R8.out LR.out L8.out LD.out P8.out.1 P8.out.2.2 false);have m0:=bc_ 0 K8.out rfl;have m1:=bc_ 1 K8.out rfl;have m2:=bc_ 2 K8.out rfl;have z0:=bc_ 0 R8.out rfl;have z1:=bc_ 1 R8.out rfl;have z2:=bc_ 2 R8.out rfl;have r0:=blk_frozen R8.out 0;have r1:=blk_frozen R8.out 1;have r2:=blk_frozen R8.out 2;clear K8 R8 P8 X8 QA QB;go_wp2;exact bodyPost_ret (by simp [results,Tryz.results96,asAddr,FIN.out.1]) rfl (RetMk.congr FIN.out.2 (fun k=>by simp) (fun k=>by simp))
 | false=>
  cases e1 with
  | true=>
   go_upto_region 21 with (fail);rw [show w6.alloc (.cells #[.bool false,rowV ga ns.length,rowV gd ns.length] 205)=mkW w6 (false && true) (rowV ga ns.length) (rowV gd ns.length) from rfl];generalize mkW w6 (false && true) (rowV ga ns.length) (rowV gd ns.length)=W7 at *;generalize w6.heap.size=gM at *;clear y0 a0 a1 a2 b0 b1 b2;have a0:=bc_ 0 A7.out.ma rfl;have a1:=bc_ 1 A7.out.ma rfl;have a2:=bc_ 2 A7.out.ma rfl;have b0:=bc_ 0 B7.out.ma rfl;have b1:=bc_ 1 B7.out.ma rfl;have b2:=bc_ 2 B7.out.ma rfl;have m0:=bc_ 0 K7.out rfl;have m1:=bc_ 1 K7.out rfl;have m2:=bc_ 2 K7.out rfl;have q1:=blk_frozen K7.out 1;have q2:=blk_frozen K7.out 2;have P8:Hid (Bl W7 ga ns.length f1∧Bl W7 gb ns.length f2∧Bl W7 gd ns.length h2):=⟨A7.out.fa,A7.out.fb,B7.out.fb⟩;have R8:=hide M7.out.r0;have X8:=hide (And.intro M7.out.gk M7.out.gf);have QA:=hide A7.out.ma;have QB:=hide B7.out.ma;have K8:=hide K7.out;have L8:=hide A7.out.la;go_upto_region 23 with (fail);clear a0 a1 a2 b0 b1 b2 m0 m1 m2 q1 q2 M7 A7 B7 K7;generalize W7=W9 at *;have a0:=bc_ 0 QA.out rfl;have a1:=bc_ 1 QA.out rfl;have a2:=bc_ 2 QA.out rfl;have b0:=bc_ 0 QB.out rfl;have b1:=bc_ 1 QB.out rfl;have b2:=bc_ 2 QB.out rfl
   go_wp2_with fail
   refine (both_any ns.length gb gd f2 h2 W9 P8.out.2.1 P8.out.2.2 hn).mono ?_
   rintro e w10 ⟨g2,rfl,hb10,l10,b10⟩;have L10:Hid (w.heap.size≤g2):=by have:=X8.out.1.size;show _≤_;omega
   have K10:=hide (blk_below K8.out hb10 (blk_lt K8.out));have R10:=hide (blk_below R8.out hb10 (blk_lt R8.out));have F10:=hide (blk_below P8.out.1 hb10 (blk_lt P8.out.1));have g10:=Lib.grownBy_setCell w10 gM 2 (rowV g2 ns.length);have FIN:=hide (mk_fin2 (X8.out.1.trans (.below hb10)) (X8.out.2.below hb10) hup R10.out LR.out L8.out L10.out F10.out b10 K10.out E6.out.1 (by have:=E6.out.2.1;omega) g10 false);have m0:=bc_ 0 K10.out rfl;have m1:=bc_ 1 K10.out rfl;have m2:=bc_ 2 K10.out rfl;have q2:=blk_frozen K10.out 2;have z0:=bc_ 0 R10.out rfl;have z1:=bc_ 1 R10.out rfl;have z2:=bc_ 2 R10.out rfl;have r0:=blk_frozen R10.out 0;have r1:=blk_frozen R10.out 1;have r2:=blk_frozen R10.out 2;have ne1:r≠gM:=by have:=E6.out.2.1;omega
   have ne2:gM≠r:=fun e=>ne1 e.symm
   clear a0 a1 a2 b0 b1 b2 hb10 l10 b10 K8 R8 P8 X8 K10 R10 F10 g10 QA QB;go_wp2;exact bodyPost_ret (by simp [results,Tryz.results96,asAddr,FIN.out.1]) rfl (RetMk.congr FIN.out.2 (fun k=>by simp) (fun k=>by simp [Bool.or_comm]))
  | false=>
   go_upto_region 21 with (fail);rw [show w6.alloc (.cells #[.bool false,rowV ga ns.length,rowV gd ns.length] 205)=mkW w6 (false && false) (rowV ga ns.length) (rowV gd ns.length) from rfl];generalize mkW w6 (false && false) (rowV ga ns.length) (rowV gd ns.length)=W7 at *;generalize w6.heap.size=gM at *;clear y0 a0 a1 a2 b0 b1 b2;have a0:=bc_ 0 A7.out.ma rfl;have a1:=bc_ 1 A7.out.ma rfl;have a2:=bc_ 2 A7.out.ma rfl;have b0:=bc_ 0 B7.out.ma rfl;have b1:=bc_ 1 B7.out.ma rfl;have b2:=bc_ 2 B7.out.ma rfl;have m0:=bc_ 0 K7.out rfl;have m1:=bc_ 1 K7.out rfl;have m2:=bc_ 2 K7.out rfl;have q1:=blk_frozen K7.out 1;have q2:=blk_frozen K7.out 2;have P8:Hid (Bl W7 ga ns.length f1∧Bl W7 gb ns.length f2∧Bl W7 gd ns.length h2):=⟨A7.out.fa,A7.out.fb,B7.out.fb⟩;have R8:=hide M7.out.r0;have X8:=hide (And.intro M7.out.gk M7.out.gf);have QA:=hide A7.out.ma;have QB:=hide B7.out.ma;have K8:=hide K7.out;have L8:=hide A7.out.la;go_upto_region 23 with (fail);clear a0 a1 a2 b0 b1 b2 m0 m1 m2 q1 q2 M7 A7 B7 K7;generalize W7=W9 at *;have a0:=bc_ 0 QA.out rfl;have a1:=bc_ 1 QA.out rfl;have a2:=bc_ 2 QA.out rfl;have b0:=bc_ 0 QB.out rfl;have b1:=bc_ 1 QB.out rfl;have b2:=bc_ 2 QB.out rfl;have FIN:=hide (mk_fin X8.out.1 X8.out.2 hup R8.out LR.out L8.out LD.out P8.out.1 P8.out.2.2 false);have m0:=bc_ 0 K8.out rfl;have m1:=bc_ 1 K8.out rfl;have m2:=bc_ 2 K8.out rfl;have z0:=bc_ 0 R8.out rfl;have z1:=bc_ 1 R8.out rfl;have z2:=bc_ 2 R8.out rfl;have r0:=blk_frozen R8.out 0;have r1:=blk_frozen R8.out 1;have r2:=blk_frozen R8.out 2;clear K8 R8 P8 X8 QA QB;go_wp2;exact bodyPost_ret (by simp [results,Tryz.results96,asAddr,FIN.out.1]) rfl (RetMk.congr FIN.out.2 (fun k=>by simp) (fun k=>by simp))
end Go.Proofs.YtmccnmgaoppogaaGreat
