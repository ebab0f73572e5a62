/-
 The walks: the document's modes; a line under way. (weirref)
 The walks: the document's lines. (weirref)
 The walks: the document's reader of all lines. (weirref)
-/
import Derived.Test.YtmccnmgaoppogaaGreatHC
import Derived.Test.YtmccnmgaoppogaaGreatE24
namespace Go.Proofs.YtmccnmgaoppogaaGreat
set_option maxRecDepth 100000
set_option maxHeartbeats 8000000
open Go.RowKit
namespace Pure
def dm1 (modes m:Int):Int:=if modes≤m then m+1 else modes
end Pure
theorem named_any (g i:Nat) (s:ByteArray) (vn vl:Value) (modes down:Int) (w:World) (h:Db w g s i vn vl modes down) (hs:s.size≤1000) (hL:Pure.Letter (Pure.pkb s i)) :
  Calls Tryz.prog 94 #[.pointer (some ⟨g,0,none⟩)] w (RetDb (.int .i64 (Pure.pkb s i-97)) g s (i+1) vn vl (Pure.dm1 modes (Pure.pkb s i-97)) down w):=by
 have i1:i<s.size:=Pure.pkb_lt (s:=s) (i:=i) (by unfold Pure.Letter at hL;omega)
 have x0:=fun w=>idx_str s (i:Int) i rfl (by omega) w
 rw [←Pure.pkb_bt i1] at x0
 have j0:=nz_ i
 have j1:(i:Int)<(s.size:Int):=by omega
 have wi:=wr_ (i:Int) (by omega) (by omega)
 unfold Pure.Letter at hL
 have c4:=bc_ 4 h rfl
 have c5:=bc_ 5 h rfl
 have H0:=hide h
 clear h
 generalize Pure.pkb s i=b at *
 obtain⟨m,hm⟩:∃m:Int,b=m+97:=⟨b-97,by omega⟩
 subst hm
 have wu:IntKind.u8.wrap (m+97-97)=m:=by
  rw [show m+97-97=m by omega];unfold IntKind.wrap;simp [IntKind.bits,IntKind.signed];omega
 have em:m+97-97=m:=by omega
 rw [em]
 have wm:IntKind.i64.wrap (m+1)=m+1:=wrap_in _ (by omega) (by omega)
 have wm0:IntKind.i64.wrap m=m:=wrap_in _ (by omega) (by omega)
 go_enter Tryz.func94,Tryz.ntmps94
 go_wp2_with fail
 go_quiet (fail)
 have dn:=below_drewN (Below.refl w.heap.size w) nq
 have H1:=hide (H0.out.below dn)
 have G1:=hide (grown_bel (some g) dn)
 clear dn c4 c5 H0 x0
 generalize w.drewN nq=W1 at *
 have c5:=bc_ 5 H1.out rfl
 have f5:=blk_frozen H1.out 5
 have H2:Hid (Db (W1.setCell ⟨g,5,none⟩ (.int .i64 ((i:Int)+1))) g s (i+1) vn vl modes down):=H1.out.at (i+1)
 have G2:=hide (G1.out.trans (Lib.grownBy_setCell W1 g 5 (.int .i64 ((i:Int)+1))))
 go_upto_region 3 with (fail)
 clear c5 f5 H1 G1
 generalize W1.setCell ⟨g,5,none⟩ (.int .i64 ((i:Int)+1))=W2 at *
 have c0:=bc_ 0 H2.out rfl
 have f0:=blk_frozen H2.out 0
 by_cases hc:modes≤m
 ·have d1:decide (modes≤m)=true:=decide_eq_true hc
  have R:Hid (Pure.dm1 modes m=m+1):=by show _=_;unfold Pure.dm1;rw [if_pos hc]
  have H3:=hide (H2.out.mode (m+1));go_wp2;go_ret;exact⟨rfl,G2.out.trans (Lib.grownBy_setCell _ g 0 _),by rw [R.out];exact H3.out⟩
 ·have d1:decide (modes≤m)=false:=decide_eq_false hc
  have R:Hid (Pure.dm1 modes m=modes):=by show _=_;unfold Pure.dm1;rw [if_neg hc]
  go_wp2;go_ret;exact⟨rfl,G2.out,by rw [R.out];exact H2.out⟩
structure DLn where
 mode:Int
 emit:Int
 act:Int
 md:Int
 root:Int
def dlC1 (x:DLn):List Value:=[.int .i64 x.mode,.int .i64 x.emit,.int .i64 x.act,.int .i64 x.md,.int .i64 x.root]
def dlC (ls:List DLn):List Value:=ls.flatMap dlC1
theorem dlC_append (a b:List DLn):dlC (a++b)=dlC a++dlC b:=by simp [dlC]
theorem dlC_one (x:DLn):dlC [x]=dlC1 x:=by simp [dlC]
theorem dlC_get {ls:List DLn} {p j:Nat} {x:DLn} (hp:ls[p]?=some x) (hj:j<5):(dlC ls)[p*5+j]?=(dlC1 x)[j]?:=by
 induction ls generalizing p with
 | nil=>simp at hp
 | cons z r ih=>
  show (dlC1 z++dlC r)[_]?=_;have hz:(dlC1 z).length=5:=rfl
  cases p with
  | zero=>
   rw [List.getElem?_cons_zero] at hp;cases hp;rw [Nat.zero_mul,Nat.zero_add,List.getElem?_append_left (by omega)]
  | succ p=>
   rw [List.getElem?_cons_succ] at hp;rw [List.getElem?_append_right (by omega),hz,show (p+1)*5+j-5=p*5+j by omega];exact ih hp
theorem dlC1_ones (x:DLn):∀u∈dlC1 x,u.oneCell'=true:=by
 intro u hu
 simp [dlC1] at hu
 rcases hu with rfl | rfl | rfl | rfl | rfl <;> rfl
theorem dline_info:(Tryz.prog.info? 101).map (fun i=>(i.zero,i.size,i.bytes))=some (some (.agg (dlC1 ⟨0,0,0,0,0⟩).toArray),5,40):=by kernel_rfl
structure LD (B g:Nat) (s:ByteArray) (j:Nat) (ns:List Pure.Nd) (al:Option Addr) (cl:Nat) (ls:List DLn) (modes down:Int) (w:World) (gx:Nat) (x:DLn) (W:World):Prop where
 dr:∃vn,Dr B g s j ns vn (.slice al ls.length cl) modes down W
 be:Below B w W
 x:Blk W gx 101 (dlC1 x)
 row:W.ownsRow B 101 5 (.slice al ls.length cl) ls.length (dlC ls)
 ap:w.heap.size≤gx∧B≤w.heap.size∧some gx≠(Value.slice al ls.length cl).ownBlock
section
variable {B g:Nat} {s:ByteArray} {j j':Nat} {ns ns':List Pure.Nd} {al:Option Addr} {cl:Nat} {ls:List DLn} {modes down modes' down':Int} {w:World} {gx:Nat} {x x':DLn} {W W':World} {vn:Value}
theorem LD.below (h:LD B g s j ns al cl ls modes down w gx x W) (hb:Below W.heap.size W W'):LD B g s j ns al cl ls modes down w gx x W':=by
 obtain⟨vn,dr⟩:=h.dr
 exact⟨⟨vn,dr.below hb⟩,h.be.trans (hb.mono dr.lt),blk_below h.x hb (blk_lt h.x),own_below h.row hb lr_,h.ap⟩
theorem LD.on (h:LD B g s j ns al cl ls modes down w gx x W) (hk:Dk B W W') (hd:Dr B g s j' ns' vn (.slice al ls.length cl) modes' down' W'):LD B g s j' ns' al cl ls modes' down' w gx x W':=
 ⟨⟨vn,hd⟩,h.be.trans hk.lo,hk.blk h.x (by decide) (by decide),hk.rows h.row (by decide) (by decide),h.ap⟩
theorem LD.moved (h:LD B g s j ns al cl ls modes down w gx x W) (hd0:Dr B g s j ns vn (.slice al ls.length cl) modes down W) (hg:W.grownBy W' (some g)) (hr:Db W' g s j' vn (.slice al ls.length cl) modes' down'):LD B g s j' ns al cl ls modes' down' w gx x W':=h.on (hd0.dk hg) (hd0.moved hg hr)
theorem LD.put (h:LD B g s j ns al cl ls modes down w gx x W) (k:Nat) (u:Value) (e:(dlC1 x).set k u=dlC1 x'):LD B g s j ns al cl ls modes down w gx x' (W.setCell ⟨gx,k,none⟩ u):=by
 obtain⟨vn,dr⟩:=h.dr
 have hg:=Lib.grownBy_setCell W gx k u
 have hx:=blk_set h.x k u
 rw [e] at hx
 exact⟨⟨vn,blk_other dr.rb (blk_ne2 dr.rb h.x (by decide)) _ _,dr.up,row_apart dr.own h.x (by decide) hg⟩,h.be.grown hg (Nat.le_trans h.ap.2.1 (by have:=h.be.size;exact this)) (fun k' e'=>by cases e';exact Nat.le_trans h.ap.2.1 h.ap.1),hx,row_keep h.row h.ap.2.2 hg,h.ap⟩
end
namespace Pure
def dmod (modes:Int) (x:Ln):Int:=if x.act=1∨x.act=2 then dm1 (dm1 modes x.mode) x.md else dm1 modes x.mode
end Pure
theorem dline_fill (x:DLn):Instr.fill (fun i=>some (i*5,5)) ((Array.range (1*5)).map fun j=>((Value.agg (dlC1 ⟨0,0,0,0,0⟩).toArray).cells)[j % (Value.agg (dlC1 ⟨0,0,0,0,0⟩).toArray).cells.size]!) [(0,.agg (dlC1 x).toArray)]=some (dlC1 x).toArray:=by
 rw [range_map]
 have:=fill_one (fun i=>some (i*5,5)) (dlC1 x) ((List.range (1*5)).map fun j=>((Value.agg (dlC1 ⟨0,0,0,0,0⟩).toArray).cells)[j % (Value.agg (dlC1 ⟨0,0,0,0,0⟩).toArray).cells.size]!) rfl lr_
 exact this
def RetDln (B g:Nat) (s:ByteArray) (i:Nat) (ns:List Pure.Nd) (ls:List DLn) (modes down:Int) (w:World) (e:Ending) (w':World):Prop:=
 e=.returned (.tuple #[])∧Below B w w'∧∃vn al cl,Dr B g s i ns vn (.slice al ls.length cl) modes down w'∧w'.ownsRow B 101 5 (.slice al ls.length cl) ls.length (dlC ls)
theorem dline_any (B g i k:Nat) (s:ByteArray) (ns:List Pure.Nd) (vn:Value) (al:Option Addr) (cl:Nat) (ls:List DLn) (modes down:Int) (x:Pure.Ln) (w:World) (h:Dr B g s i ns vn (.slice al ls.length cl) modes down w) (hrow:w.ownsRow B 101 5 (.slice al ls.length cl) ls.length (dlC ls)) (hs:s.size≤400) (hl:ns.length≤2*i) (hll:ls.length≤100) (_hmo:-100≤modes∧modes≤100) (hx:Pure.LnP s i k x) (hk:k=s.size∨Pure.pkb s k=10) :
  Calls Tryz.prog 64 #[.pointer (some ⟨g,0,none⟩)] w (RetDln B g s (k+1) (ns++Pure.nodes x.re ns.length) (ls++[⟨x.mode,x.emit,x.act,x.md,((ns.length+x.re.size-1:Nat):Int)⟩]) (Pure.dmod modes x) (Pure.upd ls.length x.down down) w):=by
 cases hx with
 | @mk j _ re D em ac md hL h32 hP hj32 hA=>
 simp only
 obtain⟨ip,hp,hp0,hp1,hp2⟩:=info_parts dline_info
 have BL:=h.lt
 have X0:Hid (LD B g s i ns al cl ls modes down w w.heap.size ⟨0,0,0,0,0⟩ (w.alloc (.cells #[.int .i64 0,.int .i64 0,.int .i64 0,.int .i64 0,.int .i64 0] 101))):=by
  have hb:=(Below.refl w.heap.size w).alloc lr_ (.cells #[.int .i64 0,.int .i64 0,.int .i64 0,.int .i64 0,.int .i64 0] 101);exact⟨⟨vn,h.below hb⟩,hb.mono BL,heap_alloc_new _ _,own_below hrow hb lr_,lr_,BL,fun e=>by have:=(World.ownsRow.lt hrow _ e.symm).2;omega⟩
 have i1:i<s.size:=Pure.pkb_lt (s:=s) (i:=i) (by unfold Pure.Letter at hL;omega)
 have i2:i+1<s.size:=Pure.pkb_lt (s:=s) (i:=i+1) (by rw [h32];decide)
 have js:j<s.size:=Pure.pkb_lt (s:=s) (i:=j) (by rw [hj32];decide)
 have ij:=hP.leaves.2
 have szP:=hP.size
 simp only [Pure.Nt.sz,Pure.Nt.un] at szP
 have aL:=hA.le
 have lb:=hL
 unfold Pure.Letter at lb
 obtain⟨mo,hmo2⟩:∃mo,mo=Pure.pkb s i-97:=⟨_,rfl⟩
 have NM:=hide (fun w1 vn1 (h1:Db w1 g s i vn1 (.slice al ls.length cl) modes down)=>named_any g i s vn1 (.slice al ls.length cl) modes down w1 h1 (by omega) hL)
 rw [←hmo2] at NM
 rw [←hmo2]
 have CALL:=hide (fun w1 vn1 (md1:Int) (h1:Dr B g s (i+2) ns vn1 (.slice al ls.length cl) md1 down w1)=>dpattern_all s hs (i+2) j re D hP (.inl hj32) B g ns vn1 al ls.length cl md1 down w1 h1 (by omega))
 have HA:=hide hA
 have HK:=hide hk
 have wi1:IntKind.i64.wrap ((i:Int)+1+1)=(i:Int)+2:=by rw [wrap_in _ (by omega) (by omega)];omega
 have wj1:=wr_ (j:Int) (by omega) (by omega)
 have wj2:IntKind.i64.wrap ((j:Int)+1+1)=(j:Int)+1+1:=wrap_in _ (by omega) (by omega)
 clear h hrow hL h32 hP hj32 hA hk hmo2 lb
 go_enter Tryz.func64,Tryz.ntmps64
 go_wp2_with fail
 generalize w.alloc (.cells #[.int .i64 0,.int .i64 0,.int .i64 0,.int .i64 0,.int .i64 0] 101)=W0 at *
 obtain⟨vn0,hd0⟩:=X0.out.dr
 generalize w.heap.size=gx at *
 refine (NM.out W0 vn0 hd0.rb).mono ?_
 clear NM
 rintro e w1 ⟨rfl,hg1,hr1⟩
 have X1:=hide (X0.out.moved hd0 hg1 hr1)
 clear hd0 hg1 hr1 X0
 generalize hm1:Pure.dm1 modes mo=m1 at *
 have x0:=bc_ 0 X1.out.x rfl
 have xf0:=blk_frozen X1.out.x 0
 have X2:=hide (X1.out.put (x':=⟨mo,0,0,0,0⟩) 0 (.int .i64 mo) rfl)
 go_upto_region 2 with (fail)
 clear x0 xf0 X1
 generalize w1.setCell ⟨gx,0,none⟩ (.int .i64 mo)=W2 at *
 obtain⟨vn2,hd2⟩:=X2.out.dr
 have c5:W2.cell? ⟨g,5,none⟩=some (.int .i64 ((i:Int)+1)):=blk_cell (j:=5) hd2.rb rfl
 have f5:=blk_frozen hd2.rb 5
 have X3:Hid (LD B g s (i+2) ns al cl ls m1 down w gx ⟨mo,0,0,0,0⟩ (W2.setCell ⟨g,5,none⟩ (.int .i64 ((i:Int)+2)))):=X2.out.moved hd2 (Lib.grownBy_setCell _ _ _ _) (hd2.rb.at (i+2))
 clear hd2
 go_wp2_with fail
 clear c5 f5 X2
 generalize W2.setCell ⟨g,5,none⟩ (.int .i64 ((i:Int)+2))=W3 at *
 obtain⟨vn3,hd3⟩:=X3.out.dr
 refine (CALL.out W3 vn3 m1 hd3).mono ?_
 clear CALL hd3
 rintro e w4 ⟨rfl,hk4,vn4,hd4⟩
 have X4:=hide (X3.out.on hk4 hd4)
 clear hk4 hd4 X3
 generalize hns:ns++Pure.nodes re ns.length=ns4 at *
 generalize hro:((ns.length+re.size-1:Nat):Int)=ro at *
 have x4:=bc_ 4 X4.out.x rfl
 have xf4:=blk_frozen X4.out.x 4
 have X5:=hide (X4.out.put (x':=⟨mo,0,0,0,ro⟩) 4 (.int .i64 ro) rfl)
 go_upto_region 4 with (fail)
 clear x4 xf4 X4
 generalize w4.setCell ⟨gx,4,none⟩ (.int .i64 ro)=W5 at *
 obtain⟨vn5,hd5⟩:=X5.out.dr
 have c5:=bc_ 5 hd5.rb rfl
 have f5:=blk_frozen hd5.rb 5
 have X6:Hid (LD B g s (j+1) ns4 al cl ls m1 (Pure.upd ls.length D down) w gx ⟨mo,0,0,0,ro⟩ (W5.setCell ⟨g,5,none⟩ (.int .i64 ((j:Int)+1)))):=X5.out.moved hd5 (Lib.grownBy_setCell _ _ _ _) (hd5.rb.at (j+1))
 clear hd5
 go_upto_region 5 with (fail)
 clear c5 f5 X5
 generalize W5.setCell ⟨g,5,none⟩ (.int .i64 ((j:Int)+1))=W6 at *
 obtain⟨vn6,hd6⟩:=X6.out.dr
 have EB:Pure.EmitB (Pure.pkb s (j+1)) em:=by
  cases HA.out with
  | plain h1 _ _ _=>exact h1
  | pop h1 _=>exact h1
  | «to» h1 _ _=>exact h1
  | push h1 _ _=>exact h1
 have j1s:j+1<s.size:=Pure.pkb_lt EB.ne
 have xk:∀w,(Instr.index 9 (.string s) (.int .i64 ((j:Int)+1))).run Tryz.prog w=.ok (.int .u8 (Pure.pkb s (j+1))) w:=by
  rw [Pure.pkb_bt j1s];exact fun w=>idx_str s ((j:Int)+1) (j+1) (by omega) j1s w
 have k0:(0:Int)≤(j:Int)+1:=by omega
 have k1:(j:Int)+1<(s.size:Int):=by omega
 have c4:=bc_ 4 hd6.rb rfl
 have c5:W6.cell? ⟨g,5,none⟩=some (.int .i64 ((j:Int)+1)):=blk_cell (j:=5) hd6.rb rfl
 clear hd6
 generalize Pure.pkb s (j+1)=pe at *
 go_wp2_with fail
 go_quiet (fail)
 have X7:=hide (X6.out.below (below_drewN (Below.refl W6.heap.size W6) nq))
 clear X6 c4 c5 xk
 generalize W6.drewN nq=W7 at *
 go_upto_if 33 with (fail)
 go_cut [] from 4 (fun wx=>LD B g s (j+1) ns4 al cl ls m1 (Pure.upd ls.length D down) w gx ⟨mo,em,0,0,ro⟩ wx)
 case first=>
  rcases EB with ⟨rfl,rfl⟩ | ⟨rfl,rfl⟩
  ·have x1:=blk_cell (j:=1) X7.out.x rfl
   have xf1:=blk_frozen X7.out.x 1;have X8:=hide (X7.out.put (x':=⟨mo,1,0,0,ro⟩) 1 (.int .i64 1) rfl)
   go_wp2_with fail
   go_meet
   case rel=>exact X8.out
  ·go_wp2_with fail
   go_meet
   case rel=>exact X7.out
 case rest=>
 have X8:=hide hcut
 clear hcut X7 EB
 obtain⟨vn8,hd8⟩:=X8.out.dr
 have c5:wc.cell? ⟨g,5,none⟩=some (.int .i64 ((j:Int)+1)):=blk_cell (j:=5) hd8.rb rfl
 have f5:=blk_frozen hd8.rb 5
 have X9:Hid (LD B g s (j+2) ns4 al cl ls m1 (Pure.upd ls.length D down) w gx ⟨mo,em,0,0,ro⟩ (wc.setCell ⟨g,5,none⟩ (.int .i64 ((j:Int)+1+1)))):=X8.out.moved hd8 (Lib.grownBy_setCell _ _ _ _) (hd8.rb.at (j+2))
 clear hd8
 go_upto_region 8 with (fail)
 clear c5 f5 X8
 generalize wc.setCell ⟨g,5,none⟩ (.int .i64 ((j:Int)+1+1))=W9 at *
 obtain⟨vn9,hd9⟩:=X9.out.dr
 have c4:=bc_ 4 hd9.rb rfl
 have c5:W9.cell? ⟨g,5,none⟩=some (.int .i64 ((j:Int)+1+1)):=blk_cell (j:=5) hd9.rb rfl
 clear hd9
 go_cut [3,64] from 4 (fun _ tv wx=>∃tb,tv=.bool tb∧LD B g s (j+2) ns4 al cl ls m1 (Pure.upd ls.length D down) w gx ⟨mo,em,0,0,ro⟩ wx∧tb=decide (j+2<s.size∧Pure.pkb s (j+2)≠10))
 case first=>
  by_cases hlt:j+2<s.size
  ·have d1:decide ((j:Int)+1+1<(s.size:Int))=true:=decide_eq_true (by omega)
   have xk:∀w,(Instr.index 9 (.string s) (.int .i64 ((j:Int)+1+1))).run Tryz.prog w=.ok (.int .u8 (Pure.pkb s (j+2))) w:=by
    rw [Pure.pkb_bt hlt];exact fun w=>idx_str s ((j:Int)+1+1) (j+2) (by omega) hlt w
   have k0:(0:Int)≤(j:Int)+1+1:=by omega
   have k1:(j:Int)+1+1<(s.size:Int):=by omega
   have R:Hid (decide (j+2<s.size∧Pure.pkb s (j+2)≠10)=(Pure.pkb s (j+2) != 10)):=by
    show _=_;rw [Bool.decide_and,decide_eq_true hlt,Bool.true_and];by_cases e:Pure.pkb s (j+2)=10 <;> simp [e]
   generalize hpk2:Pure.pkb s (j+2)=pk at *;go_quiet (fail);have X10:=hide (X9.out.below (below_drewN (Below.refl W9.heap.size W9) nq));clear X9 c4 c5 xk;generalize W9.drewN nq=W10 at *
   go_wp2_with fail
   go_meet
   case rel=>exact⟨_,rfl,X10.out,by first | exact R.out.symm | (rw [hpk2];exact R.out.symm)⟩
  ·have d1:decide ((j:Int)+1+1<(s.size:Int))=false:=decide_eq_false (by omega)
   have R:Hid (decide (j+2<s.size∧Pure.pkb s (j+2)≠10)=false):=decide_eq_false (fun h=>hlt h.1);go_quiet (fail);have X10:=hide (X9.out.below (below_drewN (Below.refl W9.heap.size W9) nq));clear X9 c4 c5;generalize W9.drewN nq=W10 at *
   go_wp2_with fail
   go_meet
   case rel=>exact⟨_,rfl,X10.out,R.out.symm⟩
 case rest=>
 obtain⟨tb,rfl,hX,htb⟩:=hcut
 have X10:=hide hX
 have HTB:=hide htb
 clear hX htb X9 c4 c5
 go_upto_if 64 with (fail)
 go_cut [] from 3 (fun wx=>LD B g s k ns4 al cl ls (if ac=1∨ac=2 then Pure.dm1 m1 md else m1) (Pure.upd ls.length D down) w gx ⟨mo,em,ac,md,ro⟩ wx)
 case first=>
  have hA:=HA.out;have hK:=HK.out;have hTB:=HTB.out;clear HA HK HTB
  have AFTER:∀pk,Pure.pkb s (j+2)=pk→(pk=60∨pk=62∨pk=43)→tb=true∧j+2<s.size:=by
   intro pk hpk hc;have hlt:j+2<s.size:=Pure.pkb_lt (s:=s) (i:=j+2) (by omega);exact⟨by rw [hTB,decide_eq_true ⟨hlt,by omega⟩],hlt⟩
  cases hA with
  | plain h1 h2 h3 h4=>
   have e:tb=false:=by
    rw [hTB];refine decide_eq_false (fun h=>?_);rcases hK with e | e
    ·omega
    ·exact h.2 e
   subst e;clear AFTER hTB hK h1 h2 h3 h4
   go_wp2_with fail
   go_meet
   case rel=>exact X10.out
  | pop h1 h2=>
   obtain⟨rfl,hlt⟩:=AFTER 60 h2 (.inl rfl);clear AFTER hTB hK h1
   have xk:∀w,(Instr.index 9 (.string s) (.int .i64 ((j:Int)+1+1))).run Tryz.prog w=.ok (.int .u8 (Pure.pkb s (j+2))) w:=by
    rw [Pure.pkb_bt hlt];exact fun w=>idx_str s ((j:Int)+1+1) (j+2) (by omega) hlt w
   rw [show Pure.pkb s (j+2)=60 from h2] at xk;have k0:(0:Int)≤(j:Int)+1+1:=by omega
   have k1:(j:Int)+1+1<(s.size:Int):=by omega
   have wj3:IntKind.i64.wrap ((j:Int)+1+1+1)=(j:Int)+1+1+1:=wrap_in _ (by omega) (by omega);obtain⟨vn10,hd10⟩:=X10.out.dr;have c4:=bc_ 4 hd10.rb rfl;have c5:wc.cell? ⟨g,5,none⟩=some (.int .i64 ((j:Int)+1+1)):=blk_cell (j:=5) hd10.rb rfl;clear hd10 h2
   go_wp2_with fail
   go_quiet (fail);have X11:=hide (X10.out.below (below_drewN (Below.refl wc.heap.size wc) nq));clear X10 c4 c5 xk;generalize wc.drewN nq=W11 at *;obtain⟨vn11,hd11⟩:=X11.out.dr;have c5:W11.cell? ⟨g,5,none⟩=some (.int .i64 ((j:Int)+1+1)):=blk_cell (j:=5) hd11.rb rfl;have f5:=blk_frozen hd11.rb 5;have X12:Hid (LD B g s (j+3) ns4 al cl ls m1 (Pure.upd ls.length D down) w gx ⟨mo,em,0,0,ro⟩ (W11.setCell ⟨g,5,none⟩ (.int .i64 ((j:Int)+1+1+1)))):=X11.out.moved hd11 (Lib.grownBy_setCell _ _ _ _) (hd11.rb.at (j+3));clear hd11;go_upto_region 11 with (fail);clear c5 f5 X11;generalize W11.setCell ⟨g,5,none⟩ (.int .i64 ((j:Int)+1+1+1))=W12 at *;have x2:=bc_ 2 X12.out.x rfl;have xf2:=blk_frozen X12.out.x 2;have X13:=hide (X12.out.put (x':=⟨mo,em,3,0,ro⟩) 2 (.int .i64 3) rfl)
   go_wp2_with fail
   go_meet
   case rel=>exact X13.out
  | «to» h1 h2 h3=>
   obtain⟨rfl,hlt⟩:=AFTER 62 h2 (by omega);clear AFTER hTB hK h1
   have xk:∀w,(Instr.index 9 (.string s) (.int .i64 ((j:Int)+1+1))).run Tryz.prog w=.ok (.int .u8 (Pure.pkb s (j+2))) w:=by
    rw [Pure.pkb_bt hlt];exact fun w=>idx_str s ((j:Int)+1+1) (j+2) (by omega) hlt w
   rw [show Pure.pkb s (j+2)=62 from h2] at xk;have k0:(0:Int)≤(j:Int)+1+1:=by omega
   have k1:(j:Int)+1+1<(s.size:Int):=by omega
   have wj3:IntKind.i64.wrap ((j:Int)+1+1+1)=(j:Int)+1+1+1:=wrap_in _ (by omega) (by omega);obtain⟨vn10,hd10⟩:=X10.out.dr;have c4:=bc_ 4 hd10.rb rfl;have c5:wc.cell? ⟨g,5,none⟩=some (.int .i64 ((j:Int)+1+1)):=blk_cell (j:=5) hd10.rb rfl;clear hd10 h2
   go_wp2_with fail
   go_quiet (fail);have X11:=hide (X10.out.below (below_drewN (Below.refl wc.heap.size wc) nq));clear X10 c4 c5 xk;generalize wc.drewN nq=W11 at *;obtain⟨vn11,hd11⟩:=X11.out.dr;have c5:W11.cell? ⟨g,5,none⟩=some (.int .i64 ((j:Int)+1+1)):=blk_cell (j:=5) hd11.rb rfl;have f5:=blk_frozen hd11.rb 5;have X12:Hid (LD B g s (j+3) ns4 al cl ls m1 (Pure.upd ls.length D down) w gx ⟨mo,em,0,0,ro⟩ (W11.setCell ⟨g,5,none⟩ (.int .i64 ((j:Int)+1+1+1)))):=X11.out.moved hd11 (Lib.grownBy_setCell _ _ _ _) (hd11.rb.at (j+3));clear hd11;go_upto_region 11 with (fail);clear c5 f5 X11;generalize W11.setCell ⟨g,5,none⟩ (.int .i64 ((j:Int)+1+1+1))=W12 at *;have x2:=bc_ 2 X12.out.x rfl;have xf2:=blk_frozen X12.out.x 2;have X13:=hide (X12.out.put (x':=⟨mo,em,1,0,ro⟩) 2 (.int .i64 1) rfl);go_upto_region 15 with (fail);clear x2 xf2 X12;generalize W12.setCell ⟨gx,2,none⟩ (.int .i64 1)=W13 at *;obtain⟨vn13,hd13⟩:=X13.out.dr;have NM:=hide (named_any g (j+3) s vn13 (.slice al ls.length cl) m1 _ W13 hd13.rb (by omega) h3);have ED:Hid (hd13=hd13):=rfl;generalize hmd:Pure.pkb s (j+3)-97=mdv at *
   go_wp2_with fail
   refine NM.out.mono ?_
   clear NM ED;rintro e w14 ⟨rfl,hg14,hr14⟩;have X14:=hide (X13.out.moved hd13 hg14 hr14);clear hd13 hg14 hr14 X13;have x3:=bc_ 3 X14.out.x rfl;have xf3:=blk_frozen X14.out.x 3;have X15:=hide (X14.out.put (x':=⟨mo,em,1,mdv,ro⟩) 3 (.int .i64 mdv) rfl)
   go_wp2_with fail
   go_meet
   case rel=>
    rw [if_pos (by decide)];exact X15.out
  | push h1 h2 h3=>
   obtain⟨rfl,hlt⟩:=AFTER 43 h2 (by omega);clear AFTER hTB hK h1
   have xk:∀w,(Instr.index 9 (.string s) (.int .i64 ((j:Int)+1+1))).run Tryz.prog w=.ok (.int .u8 (Pure.pkb s (j+2))) w:=by
    rw [Pure.pkb_bt hlt];exact fun w=>idx_str s ((j:Int)+1+1) (j+2) (by omega) hlt w
   rw [show Pure.pkb s (j+2)=43 from h2] at xk;have k0:(0:Int)≤(j:Int)+1+1:=by omega
   have k1:(j:Int)+1+1<(s.size:Int):=by omega
   have wj3:IntKind.i64.wrap ((j:Int)+1+1+1)=(j:Int)+1+1+1:=wrap_in _ (by omega) (by omega);obtain⟨vn10,hd10⟩:=X10.out.dr;have c4:=bc_ 4 hd10.rb rfl;have c5:wc.cell? ⟨g,5,none⟩=some (.int .i64 ((j:Int)+1+1)):=blk_cell (j:=5) hd10.rb rfl;clear hd10 h2
   go_wp2_with fail
   go_quiet (fail);have X11:=hide (X10.out.below (below_drewN (Below.refl wc.heap.size wc) nq));clear X10 c4 c5 xk;generalize wc.drewN nq=W11 at *;obtain⟨vn11,hd11⟩:=X11.out.dr;have c5:W11.cell? ⟨g,5,none⟩=some (.int .i64 ((j:Int)+1+1)):=blk_cell (j:=5) hd11.rb rfl;have f5:=blk_frozen hd11.rb 5;have X12:Hid (LD B g s (j+3) ns4 al cl ls m1 (Pure.upd ls.length D down) w gx ⟨mo,em,0,0,ro⟩ (W11.setCell ⟨g,5,none⟩ (.int .i64 ((j:Int)+1+1+1)))):=X11.out.moved hd11 (Lib.grownBy_setCell _ _ _ _) (hd11.rb.at (j+3));clear hd11;go_upto_region 11 with (fail);clear c5 f5 X11;generalize W11.setCell ⟨g,5,none⟩ (.int .i64 ((j:Int)+1+1+1))=W12 at *;have x2:=bc_ 2 X12.out.x rfl;have xf2:=blk_frozen X12.out.x 2;have X13:=hide (X12.out.put (x':=⟨mo,em,2,0,ro⟩) 2 (.int .i64 2) rfl);go_upto_region 18 with (fail);clear x2 xf2 X12;generalize W12.setCell ⟨gx,2,none⟩ (.int .i64 2)=W13 at *;obtain⟨vn13,hd13⟩:=X13.out.dr;have NM:=hide (named_any g (j+3) s vn13 (.slice al ls.length cl) m1 _ W13 hd13.rb (by omega) h3);have ED:Hid (hd13=hd13):=rfl;generalize hmd:Pure.pkb s (j+3)-97=mdv at *
   go_wp2_with fail
   refine NM.out.mono ?_
   clear NM ED;rintro e w14 ⟨rfl,hg14,hr14⟩;have X14:=hide (X13.out.moved hd13 hg14 hr14);clear hd13 hg14 hr14 X13;have x3:=bc_ 3 X14.out.x rfl;have xf3:=blk_frozen X14.out.x 3;have X15:=hide (X14.out.put (x':=⟨mo,em,2,mdv,ro⟩) 3 (.int .i64 mdv) rfl)
   go_wp2_with fail
   go_meet
   case rel=>
    rw [if_pos (by decide)];exact X15.out
 case rest=>
 have X20:=hide hcut
 clear hcut X10 HTB
 obtain⟨vn20,hd20⟩:=X20.out.dr
 have wk:=wr_ (k:Int) (by omega) (by omega)
 have c5:=bc_ 5 hd20.rb rfl
 have f5:=blk_frozen hd20.rb 5
 have X21:Hid (LD B g s (k+1) ns4 al cl ls (if ac=1∨ac=2 then Pure.dm1 m1 md else m1) (Pure.upd ls.length D down) w gx ⟨mo,em,ac,md,ro⟩ (wc.setCell ⟨g,5,none⟩ (.int .i64 ((k:Int)+1)))):=X20.out.moved hd20 (Lib.grownBy_setCell _ _ _ _) (hd20.rb.at (k+1))
 have MD:Hid (Pure.dmod modes ⟨mo,em,ac,md,re,D⟩=if ac=1∨ac=2 then Pure.dm1 m1 md else m1):=by
  show _=_;unfold Pure.dmod;simp only;rw [hm1]
 clear hd20 hm1
 go_upto_region 20 with (fail)
 rw [MD.out]
 clear MD
 clear c5 f5 X20
 generalize wc.setCell ⟨g,5,none⟩ (.int .i64 ((k:Int)+1))=W21 at *
 generalize (if ac=1∨ac=2 then Pure.dm1 m1 md else m1)=mm at *
 generalize hy:(⟨mo,em,ac,md,ro⟩:DLn)=y at *
 have hb2:=((Below.refl W21.heap.size W21).alloc lr_ (.cells (dlC1 y).toArray 101)).drew
 have X23:=hide (X21.out.below hb2)
 obtain⟨vn23,hd23⟩:=X23.out.dr
 have BL2:B≤(W21.alloc (.cells (dlC1 y).toArray 101)).drew.heap.size:=hd23.lt
 have S1:W21.drew.rangeAt gx 0 (dlC1 y):=blk_range (W:=W21.drew) X21.out.x
 have S2:(W21.alloc (.cells (dlC1 y).toArray 101)).drew.rangeAt gx 0 (dlC1 y):=blk_range X23.out.x
 obtain⟨vn21,hd21⟩:=X21.out.dr
 have rl:=blk_lt hd21.rb
 have ne1:g≠W21.heap.size:=by omega
 have ne2:W21.heap.size≠g:=by omega
 have c2:=bc_ 2 hd21.rb rfl
 have BLw:=BL
 clear hb2 hd21
 refine wp_region_held_drew (S:=fun w'=>w'.rangeAt gx 0 (dlC1 y)) (by kernel_rfl) S1 (fun hHeld=>?_)
 refine wpAnyH_take (i:=0) (v:=?v0) rfl (by kernel_rfl) (by kernel_rfl) (by kernel_rfl) (fun _ _ _ h=>h) (Or.inl ⟨by rfl,?hy0⟩) (by assumption) ?rest0
 case hy0=>(intro w hSw;(try dsimp only at hSw);go_simp;try (with_reducible rfl))
 try simp only [List.getElem_toArray,List.getElem_cons_zero,Act.put,List.setIfInBounds_toArray,List.set_cons_zero,List.set_cons_succ]
 refine wpAnyH_take (i:=1) (v:=?v1) rfl (by kernel_rfl) (by kernel_rfl) (by kernel_rfl) (fun _ _ _ h=>h) (Or.inl ⟨by rfl,?hy1⟩) (by assumption) ?rest1
 case hy1=>(intro w hSw;(try dsimp only at hSw);go_simp;try (with_reducible rfl))
 try simp only [tk_,Act.put]
 refine wpAnyH_take (i:=2) (v:=?v2) rfl (by kernel_rfl) (by kernel_rfl) (by kernel_rfl) (fun _ _ _ h=>h) (Or.inl ⟨by rfl,?hy2⟩) (by assumption) ?rest2
 case hy2=>(intro w hSw;(try dsimp only at hSw);go_simp;try (with_reducible rfl))
 try simp only [tk_,Act.put]
 refine wpAnyH_take (i:=3) (v:=?v3) rfl (by kernel_rfl) (by kernel_rfl) (by kernel_rfl) (fun _ _ _ h=>h) (Or.inl ⟨by rfl,?hy3⟩) (by assumption) ?rest3
 case hy3=>(intro w hSw;(try dsimp only at hSw);go_simp;try (with_reducible rfl))
 try simp only [tk_,Act.put]
 refine wpAnyH_take (i:=5) (v:=(.agg (dlC1 y).toArray)) rfl (by kernel_rfl) (by kernel_rfl) (by kernel_rfl) (fun _ _ _ h=>h) (yieldsIf_load_mid (by rfl) 101 (.tmp 2) rfl gx 0 rfl (dlC1 y) _ (fun _ hS=>hS) Tryz.underlying101 rfl (by kernel_rfl)) (by assumption) ?_
 try simp only [tk_,Act.put]
 refine wpAnyH_ready (rs:=[4,6]) (by kernel_rfl) (by simp) ?_
 refine AllReadyH.cons rfl (fun K hK=>?_) (AllReadyH.cons rfl (fun K hK=>?_) AllReadyH.nil)
 ·go_simp
  refine hK.out _ _ hHeld (fun hHeld2=>?_);clear hK K
  try simp only [tk_,Act.put]
  refine wpAnyH_ready (rs:=[6]) (by kernel_rfl) (by simp) ?_
  refine AllReadyH.cons rfl (fun K hK=>?_) AllReadyH.nil;refine wp_buildSlice1 97 101 0 (.tmp 112) (.agg (dlC1 y).toArray) rfl rfl (dlC1 y).toArray ip _ 5 Tryz.underlying97 hp hp0 hp1 (by omega) (by omega) (dline_fill y) ?_
  refine hK.out _ _ S2 (fun hHeld3=>?_);clear hK K
  try simp only [tk_,Act.put]
  refine wpAnyH_ready (rs:=[7]) (by kernel_rfl) (by simp) ?_
  refine AllReadyH.cons rfl (fun K hK=>?_) AllReadyH.nil;refine step_append_lies _ (by rfl) _ _ _ (by rfl) B 101 ip _ 5 40 Tryz.underlying97 hp hp0 hp1 hp2 (by rfl) (by omega) (.slice al ls.length cl) ls.length (dlC ls) (by rfl) X23.out.row ⟨W21.heap.size,0,none⟩ 1 1 (dlC1 y) (by rfl) (by rfl) (World.news_of_block (cs:=(dlC1 y).toArray) (t:=101) (fr:=(0,0)) (heap_alloc_new _ _)) (dlC1_ones y) (by omega) (by unfold maxLen;omega) (by omega) BL2 (W21.heap.size+1) (by simp) ?_
  intro g2 cap2 w2 hown2 hgrow2 hat2 hlt2;clear hat2 hlt2;have be2:Below B w w2:=X23.out.be.grown hgrow2 BL2 (fun k' e'=>(World.ownsRow.lt X23.out.row k' e').1);have mb2:Db w2 g s (k+1) vn23 (.slice al ls.length cl) _ _:=row_far X23.out.row hd23.rb (by decide) hgrow2;have on2:=rows_apart hd23.own X23.out.row (by decide) hgrow2;have xb2:=blk_grown X23.out.x hgrow2 X23.out.ap.2.2;refine hK.out _ _ (blk_range xb2) (fun hHeld4=>?_);have k5:=bc_ 2 mb2 rfl;have f5':=blk_frozen mb2 2;clear hK K
  try simp only [tk_,Act.put]
  refine wpAnyH_take (i:=8) (v:=?va8) rfl (by kernel_rfl) (by kernel_rfl) (by kernel_rfl) (fun _ _ _ h=>h) (Or.inl ⟨by rfl,?hya8⟩) (by assumption) ?resta8
  case hya8=>(intro w hSw;(try dsimp only at hSw);go_simp;try (with_reducible rfl))
  try simp only [tk_,Act.put]
  refine wpAnyH_take (i:=9) (v:=?va9) rfl (by kernel_rfl) (by kernel_rfl) (by kernel_rfl) (fun _ _ _ h=>h) (Or.inl ⟨by rfl,?hya9⟩) (by assumption) ?resta9
  case hya9=>(intro w hSw;(try dsimp only at hSw);go_simp;try (with_reducible rfl))
  try simp only [tk_,Act.put]
  refine wpAnyH_ready (rs:=[10]) (by kernel_rfl) (by simp) ?_
  refine AllReadyH.cons rfl (fun K hK=>?_) AllReadyH.nil
  go_simp
  have hg3:=Lib.grownBy_setCell w2 g 2 (.slice (some ⟨g2,0,none⟩) (ls.length+1) cap2);have xb3:=blk_grown xb2 hg3 (fun e=>blk_ne2 xb2 mb2 (by decide) (Option.some.inj e));refine hK.out _ _ (blk_range xb3) (fun hHeld5=>?_);clear hK K;refine wpAnyH_done (by kernel_rfl) ?_ _
  have FIN:Hid (RetDln B g s (k+1) ns4 (ls++[y]) mm (Pure.upd ls.length D down) w (.returned (.tuple #[])) (w2.setCell ⟨g,2,none⟩ (.slice (some ⟨g2,0,none⟩) (ls.length+1) cap2))):=by
   refine⟨rfl,be2.grown hg3 (Nat.le_trans BL2 hgrow2.size) (fun k' e'=>by cases e';exact hd23.up),vn23,some ⟨g2,0,none⟩,cap2,⟨?_,hd23.up,row_apart on2 mb2 (by decide) hg3⟩,?_⟩
   ·rw [List.length_append]
    exact mb2.lines _
   ·have:=row_apart hown2 mb2 (by decide) hg3
    rw [dlC_append,dlC_one,List.length_append];exact this
  clear hHeld hHeld2 hHeld3 hHeld4 hHeld5 mb2 xb2 xb3 k5 f5' hown2 hgrow2 hg3 X23 be2 on2 hd23;go_wp2
  go_end0
  exact FIN.out
 ·have c2':=blk_cell (j:=2) hd23.rb rfl
  refine wp_buildSlice1 97 101 0 (.tmp 112) (.agg (dlC1 y).toArray) rfl rfl (dlC1 y).toArray ip _ 5 Tryz.underlying97 hp hp0 hp1 (by omega) (by omega) (dline_fill y) ?_
  refine hK.out _ _ S2 (fun hHeld2=>?_);clear hK K
  try simp only [tk_,Act.put]
  refine wpAnyH_ready (rs:=[4]) (by kernel_rfl) (by simp) ?_
  refine AllReadyH.cons rfl (fun K hK=>?_) AllReadyH.nil
  go_simp
  refine hK.out _ _ S2 (fun hHeld3=>?_);clear hK K
  try simp only [tk_,Act.put]
  refine wpAnyH_ready (rs:=[7]) (by kernel_rfl) (by simp) ?_
  refine AllReadyH.cons rfl (fun K hK=>?_) AllReadyH.nil;refine step_append_lies _ (by rfl) _ _ _ (by rfl) B 101 ip _ 5 40 Tryz.underlying97 hp hp0 hp1 hp2 (by rfl) (by omega) (.slice al ls.length cl) ls.length (dlC ls) (by rfl) X23.out.row ⟨W21.heap.size,0,none⟩ 1 1 (dlC1 y) (by rfl) (by rfl) (World.news_of_block (cs:=(dlC1 y).toArray) (t:=101) (fr:=(0,0)) (heap_alloc_new _ _)) (dlC1_ones y) (by omega) (by unfold maxLen;omega) (by omega) BL2 (W21.heap.size+1) (by simp) ?_
  intro g2 cap2 w2 hown2 hgrow2 hat2 hlt2;clear hat2 hlt2;have be2:Below B w w2:=X23.out.be.grown hgrow2 BL2 (fun k' e'=>(World.ownsRow.lt X23.out.row k' e').1);have mb2:Db w2 g s (k+1) vn23 (.slice al ls.length cl) _ _:=row_far X23.out.row hd23.rb (by decide) hgrow2;have on2:=rows_apart hd23.own X23.out.row (by decide) hgrow2;have xb2:=blk_grown X23.out.x hgrow2 X23.out.ap.2.2;refine hK.out _ _ (blk_range xb2) (fun hHeld4=>?_);have k5:=bc_ 2 mb2 rfl;have f5':=blk_frozen mb2 2;clear hK K
  try simp only [tk_,Act.put]
  refine wpAnyH_take (i:=8) (v:=?vb8) rfl (by kernel_rfl) (by kernel_rfl) (by kernel_rfl) (fun _ _ _ h=>h) (Or.inl ⟨by rfl,?hyb8⟩) (by assumption) ?restb8
  case hyb8=>(intro w hSw;(try dsimp only at hSw);go_simp;try (with_reducible rfl))
  try simp only [tk_,Act.put]
  refine wpAnyH_take (i:=9) (v:=?vb9) rfl (by kernel_rfl) (by kernel_rfl) (by kernel_rfl) (fun _ _ _ h=>h) (Or.inl ⟨by rfl,?hyb9⟩) (by assumption) ?restb9
  case hyb9=>(intro w hSw;(try dsimp only at hSw);go_simp;try (with_reducible rfl))
  try simp only [tk_,Act.put]
  refine wpAnyH_ready (rs:=[10]) (by kernel_rfl) (by simp) ?_
  refine AllReadyH.cons rfl (fun K hK=>?_) AllReadyH.nil
  go_simp
  have hg3:=Lib.grownBy_setCell w2 g 2 (.slice (some ⟨g2,0,none⟩) (ls.length+1) cap2);have xb3:=blk_grown xb2 hg3 (fun e=>blk_ne2 xb2 mb2 (by decide) (Option.some.inj e));refine hK.out _ _ (blk_range xb3) (fun hHeld5=>?_);clear hK K;refine wpAnyH_done (by kernel_rfl) ?_ _
  have FIN:Hid (RetDln B g s (k+1) ns4 (ls++[y]) mm (Pure.upd ls.length D down) w (.returned (.tuple #[])) (w2.setCell ⟨g,2,none⟩ (.slice (some ⟨g2,0,none⟩) (ls.length+1) cap2))):=by
   refine⟨rfl,be2.grown hg3 (Nat.le_trans BL2 hgrow2.size) (fun k' e'=>by cases e';exact hd23.up),vn23,some ⟨g2,0,none⟩,cap2,⟨?_,hd23.up,row_apart on2 mb2 (by decide) hg3⟩,?_⟩
   ·rw [List.length_append]
    exact mb2.lines _
   ·have:=row_apart hown2 mb2 (by decide) hg3
    rw [dlC_append,dlC_one,List.length_append];exact this
  clear hHeld hHeld2 hHeld3 hHeld4 hHeld5 mb2 xb2 xb3 k5 f5' hown2 hgrow2 hg3 X23 be2 on2 hd23;go_wp2
  go_end0
  exact FIN.out
structure DR where
 ns:List Pure.Nd
 ls:List DLn
 modes:Int
 down:Int
namespace Pure
def addD (r:DR) (x:Ln):DR:=⟨r.ns++nodes x.re r.ns.length,r.ls++[⟨x.mode,x.emit,x.act,x.md,((r.ns.length+x.re.size-1:Nat):Int)⟩],dmod r.modes x,upd r.ls.length x.down r.down⟩
def allD (ls:List Ln):DR:=ls.foldl addD ⟨[],[],0,-1⟩
theorem allD_snoc (ls:List Ln) (x:Ln):allD (ls++[x])=addD (allD ls) x:=by simp [allD]
theorem foldD_length (ls:List Ln):∀r:DR,(ls.foldl addD r).ls.length=r.ls.length+ls.length:=by
 induction ls with
 | nil=>intro r;rfl
 | cons x t ih=>intro r;rw [List.foldl_cons,ih];simp [addD];omega
theorem allD_length (ls:List Ln):(allD ls).ls.length=ls.length:=by unfold allD;rw [foldD_length];simp
theorem LnP.size {s:ByteArray} {i k:Nat} {x:Ln} (h:LnP s i k x):x.re.size+2*i≤2*k:=by
 cases h with
 | mk h1 h2 h3 h4 h5=>
  have a:=h3.size;have b:=h5.le;simp only [Nt.sz,Nt.un] at a;simp only;omega
theorem dmod_bd {m:Int} {x:Ln} (hx:LnB x) (h:0≤m∧m≤4):0≤dmod m x∧dmod m x≤4:=by
 unfold LnB at hx
 unfold dmod dm1
 split <;> split <;> (try split) <;> omega
end Pure
structure DI (s:ByteArray) (w:World) (g k:Nat) (ls all:List Pure.Ln) (W:World):Prop where
 dr:∃vn al cl,Dr w.heap.size g s k (Pure.allD ls).ns vn (.slice al (Pure.allD ls).ls.length cl) (Pure.allD ls).modes (Pure.allD ls).down W∧W.ownsRow w.heap.size 101 5 (.slice al (Pure.allD ls).ls.length cl) (Pure.allD ls).ls.length (dlC (Pure.allD ls).ls)
 be:Below w.heap.size w W
 on:(Pure.Lns s k ls all∧k<s.size)∨(s.size<k∧ls=all)
 ns:(Pure.allD ls).ns.length≤2*k
 md:0≤(Pure.allD ls).modes∧(Pure.allD ls).modes≤4
 n:ls.length≤16
 le:k≤s.size+1
def RetRl (s:ByteArray) (all:List Pure.Ln) (w:World) (e:Ending) (w':World):Prop:=
 ∃g vn al cl,e=.returned (.pointer (some ⟨g,0,none⟩))∧Below w.heap.size w w'∧Dr w.heap.size g s (s.size+1) (Pure.allD all).ns vn (.slice al (Pure.allD all).ls.length cl) (Pure.allD all).modes (Pure.allD all).down w'∧w'.ownsRow w.heap.size 101 5 (.slice al (Pure.allD all).ls.length cl) (Pure.allD all).ls.length (dlC (Pure.allD all).ls)
theorem Pure.Lns.pos {s:ByteArray} {i:Nat} {ls all:List Pure.Ln} (h:Pure.Lns s i ls all):i<s.size:=by
 cases h with
 | done h1=>have:=h1.le;omega
 | more h1=>have:=h1.le;omega
theorem dread_any (s:ByteArray) (hs:s.size≤400) (all:List Pure.Ln) (hA:Pure.Lns s 0 [] all) (w:World) :
  Calls Tryz.prog 28 #[.string s] w (RetRl s all w):=by
 have hp:=hA.pos
 have I0:Hid (DI s w w.heap.size 0 [] all (w.alloc (.cells #[.int .i64 0,.slice none 0 0,.slice none 0 0,.int .i64 (-1),.string s,.int .i64 0] 99))):=
  ⟨⟨.slice none 0 0,none,0,⟨heap_alloc_new _ _,lr_,own_nil _ _ _ _⟩,own_nil _ _ _ _⟩,bn_ _,.inl ⟨hA,hp⟩,Nat.zero_le _,by decide,by simp,Nat.zero_le _⟩
 go_enter Tryz.func28,Tryz.ntmps28
 go_wp2_with fail
 go_loopg [7] (s.size+1) (fun gk _ wx=>∃k ls,gk=s.size+1-k∧DI s w w.heap.size k ls all wx)
 case atStart=>exact⟨0,[],rfl,I0.out⟩
 case round=>
  clear I0;obtain⟨k,ls,rfl,hI⟩:=hrel;obtain⟨vn,al,cl,hd,hr⟩:=hI.dr;have c5:=bc_ 5 hd.rb rfl;rcases hI.on with ⟨hL,hk⟩ | ⟨hk,rfl⟩
  ·have d1:=dl_ (k:Int) (s.size:Int) (by omega)
   have LL:=Pure.allD_length ls
   have STEP:Hid (∃(x:Pure.Ln) (j:Nat),Pure.LnP s k j x∧(j=s.size∨Pure.pkb s j=10)∧ls.length+1≤16∧((Pure.Lns s (j+1) (ls++[x]) all∧j+1<s.size)∨(s.size<j+1∧ls++[x]=all))):=by
    have n:=hI.n;have hc:=hA.bds
    cases hL with
    | done h1=>exact⟨_,_,h1,.inl rfl,by have:=hc.2.2;simpa using this,.inr ⟨Nat.lt_succ_self _,rfl⟩⟩
    | more h1 h2 h3 h4=>exact⟨_,_,h1,.inr h2,by omega,.inl ⟨h4,h4.pos⟩⟩
   obtain⟨x,j,hx,hj,hn,hon⟩:=STEP.out;clear STEP;have CALL:=hide (fun W (h:Dr w.heap.size w.heap.size s k (Pure.allD ls).ns vn (.slice al (Pure.allD ls).ls.length cl) (Pure.allD ls).modes (Pure.allD ls).down W) (h2:W.ownsRow w.heap.size 101 5 (.slice al (Pure.allD ls).ls.length cl) (Pure.allD ls).ls.length (dlC (Pure.allD ls).ls))=>dline_any w.heap.size w.heap.size k j s (Pure.allD ls).ns vn al cl (Pure.allD ls).ls (Pure.allD ls).modes (Pure.allD ls).down x W h h2 hs hI.ns (by omega) (by have:=hI.md;omega) hx hj);have HD:=hide (And.intro hd hr)
   have NEXT:Hid (∀w2,Below w.heap.size wr w2→(∃vn al cl,Dr w.heap.size w.heap.size s (j+1) (Pure.allD (ls++[x])).ns vn (.slice al (Pure.allD (ls++[x])).ls.length cl) (Pure.allD (ls++[x])).modes (Pure.allD (ls++[x])).down w2∧w2.ownsRow w.heap.size 101 5 (.slice al (Pure.allD (ls++[x])).ls.length cl) (Pure.allD (ls++[x])).ls.length (dlC (Pure.allD (ls++[x])).ls))→DI s w w.heap.size (j+1) (ls++[x]) all w2):=by
    intro w2 hb h2;have b:=hx.le;have c:=hx.size;refine⟨h2,hI.be.trans hb,hon,?_,?_,by simpa using hn,by omega⟩
    ·rw [Pure.allD_snoc]
     have:=hI.ns;simp only [Pure.addD,List.length_append,Pure.nodes_length];omega
    ·rw [Pure.allD_snoc]
     exact Pure.dmod_bd hx.bd hI.md
   have HX:=hx.le;clear hI hd hr hL hon hx hj LL
   go_wp2_with fail
   refine (CALL.out _ HD.out.1 HD.out.2).mono ?_
   clear CALL HD;rintro e w2 ⟨rfl,hb,vn2,al2,cl2,hd2,hr2⟩;have N2:Hid (DI s w w.heap.size (j+1) (ls++[x]) all w2):=NEXT.out w2 hb ⟨vn2,al2,cl2,by rw [Pure.allD_snoc];exact hd2,by rw [Pure.allD_snoc];exact hr2⟩;clear NEXT hd2 hr2 hb c5;go_wp2;go_roundg (s.size+1-(j+1))
   case measure=>omega
   case rel=>exact⟨j+1,ls++[x],rfl,N2.out⟩
  ·have d1:=df_ (k:Int) (s.size:Int) (by omega)
   have HI:=hide hI;have HD:=hide (And.intro hd hr);have ek:k=s.size+1:=by have:=hI.le;omega
   clear hI hd hr;go_wp2;go_ret;subst ek;exact⟨_,vn,al,cl,rfl,HI.out.be,HD.out.1,HD.out.2⟩
end Go.Proofs.YtmccnmgaoppogaaGreat
