import Derived.Test.YtmccnmgaoppogaaGreatKbf
import Derived.Lib.ConvBytes
namespace Go.Proofs.YtmccnmgaoppogaaGreat
open Pu
set_option linter.all false
set_option maxRecDepth 100000
set_option maxHeartbeats 8000000
open Go.RowKit
variable {E:bH} {f:Nat->Int} {C D F:bI} {g:Nat} {vc ve vh vr vt:V_} {W W' w:W_} {depth fault:Int} {T:List bJ} {ops:Array Oper}
def shut (ended:Bool) (fault:Int):Int:=if fault≠0 then fault else if ended then 8 else 0
def sN (v:V_) (w:W_) (e:Ending) (w':W_):Prop:=e=.returned v/\w'=w
def Du (v:V_) (w:W_) (e:Ending) (w':W_):Prop:=e=.returned v/\B_ w w'
def aa8 (v:V_) (w:W_) (e:Ending) (w':W_):Prop:=e=.returned v/\∃n,w'=w.drewN n
theorem uQ (g:Nat) (E:bH) (ve vr vc vh:V_) (C:bI) (fault:Int) (w:W_) (m:jW w g E ve vr vc vh C fault) :
  C_ 103 #[p_ g] w (sN (I_ (shut E.ended fault)) w):=by
 have c25:=m.cell (j:=25) rfl;have c26:=m.cell (j:=26) rfl;clear m;by_cases hf:fault=0
 .subst hf;cases hE:E.ended
  all_goals
   rw [hE] at c25;go_enter Tryz.func103,Tryz.ntmps103;go_wp2;go_ret;exact⟨by simp [shut],rfl⟩
 .have hd:(fault != 0)=true:=by simpa using hf
  go_enter Tryz.func103,Tryz.ntmps103;go_wp2;go_ret;exact⟨by simp [shut,hf],rfl⟩
theorem Ww (g:Nat) (E:bH) (ve vr vc vh:V_) (C:bI) (fault:Int) (w:W_) (m:jW w g E ve vr vc vh C fault) :
  C_ 127 #[p_ g] w (Du (.agg #[I_ C.rule,I_ C.pos,I_ C.marked,I_ C.line,I_ C.iH]) w):=by
 have c5:=m.cell (j:=5) rfl;have c6:=m.cell (j:=6) rfl;have c7:=m.cell (j:=7) rfl;have c22:=m.cell (j:=22) rfl;have c23:=m.cell (j:=23) rfl;have hlt:=bO m.fA;have hne:g≠w.heap.size:=by omega
 clear m;have hB:=bK ((Br_ w.heap.size w).alloc di (c_ #[I_ C.rule,I_ C.pos,I_ C.marked,I_ C.line,I_ C.iH] 74));go_enter Tryz.func127,Tryz.ntmps127
 go_wp2_with fail
 go_region_held3 (fun w'=>w'.cell? (a_ g 5)=some (I_ C.pos)/\w'.cell? (a_ g 6)=some (I_ C.line)/\w'.cell? (a_ g 7)=some (I_ C.iH)/\w'.cell? (a_ g 22)=some (I_ C.rule)/\w'.cell? (a_ g 23)=some (I_ C.marked)) (go_keep) (fail)
 all_goals go_wp2
 all_goals exact br_ (v:=.agg #[I_ C.rule,I_ C.pos,I_ C.marked,I_ C.line,I_ C.iH]) (by simp [results,Tryz.results127,go_sem]) rfl ⟨rfl,hB.o.drew⟩
theorem JV (g:Nat) (E:bH) (ve vr vc:V_) (ah:Option Addr) (nh ch:Nat) (C:bI) (fault:Int) (w:W_) (m:jW w g E ve vr vc (.slice ah nh ch) C fault) (_hh:nh<=9223372036854775807) :
  C_ 80 #[p_ g] w (Du (.agg #[I_ C.pos,I_ C.line,I_ C.iH,I_ C.mode,I_ C.iW,I_ nh,I_ C.steps]) w):=by
 have c5:=m.cell (j:=5) rfl;have c6:=m.cell (j:=6) rfl;have c7:=m.cell (j:=7) rfl;have c8:=m.cell (j:=8) rfl;have c17:=m.cell (j:=17) rfl;have c18:=m.cell (j:=18) rfl;have c24:=m.cell (j:=24) rfl;have hlt:=bO m.fA;have hne:g≠w.heap.size:=by omega
 clear m;have hB:=bK ((Br_ w.heap.size w).alloc di (c_ #[I_ C.pos,I_ C.line,I_ C.iH,I_ C.mode,I_ C.iW,I_ nh,I_ C.steps] 130));go_enter Tryz.func80,Tryz.ntmps80
 go_wp2_with fail
 go_region_held3 (fun w'=>w'.cell? (a_ g 5)=some (I_ C.pos)/\w'.cell? (a_ g 6)=some (I_ C.line)/\w'.cell? (a_ g 7)=some (I_ C.iH)/\w'.cell? (a_ g 8)=some (I_ C.mode)/\w'.cell? (a_ g 17)=some (I_ C.iW)/\w'.cell? (a_ g 24)=some (.slice ah nh ch)/\w'.cell? (a_ g 18)=some (I_ C.steps)) (go_keep) (fail)
 all_goals go_wp2
 all_goals exact br_ (v:=.agg #[I_ C.pos,I_ C.line,I_ C.iH,I_ C.mode,I_ C.iW,I_ nh,I_ C.steps]) (by simp [results,Tryz.results80,go_sem]) rfl ⟨rfl,hB.o.drew⟩
theorem Ws (g:Nat) (E:bH) (ve vr vc:V_) (ah:Option Addr) (nh ch:Nat) (C:bI) (fault:Int) (w:W_) (m:jW w g E ve vr vc (.slice ah nh ch) C fault) (hh:nh<=9223372036854775807) :
  C_ 52 #[p_ g] w (Du (.agg #[I_ C.pos,I_ C.line,I_ C.iH,I_ C.mode,I_ C.iW,I_ nh,I_ C.steps]) w):=by
 have M:=bK (m.alloc (c_ #[I_ 0,I_ 0,I_ 0,I_ 0,I_ 0,I_ 0,I_ 0] 130));have hB:=bK ((Br_ w.heap.size w).alloc di (c_ #[I_ 0,I_ 0,I_ 0,I_ 0,I_ 0,I_ 0,I_ 0] 130));clear m;go_enter Tryz.func52,Tryz.ntmps52
 go_wp2_with fail
 refine (JV g E ve vr vc ah nh ch C fault _ M.o hh).mono ?_
 rintro e w1 ⟨rfl,hB1⟩;have b1:=hB.o.trans (hB1.mono (by simp));have hz:w.heap.size<w1.heap.size:=by have:=hB1.size;simp at this;omega
 have k1:dh w1 w.heap.size 130 [I_ 0,I_ 0,I_ 0,I_ 0,I_ 0,I_ 0,I_ 0]:=bN (hn_ w (c_ #[I_ 0,I_ 0,I_ 0,I_ 0,I_ 0,I_ 0,I_ 0] 130)) hB1 (by simp);have o0:=bP 0 k1 rfl;have o1:=bP 1 k1 rfl;have o2:=bP 2 k1 rfl;have o3:=bP 3 k1 rfl;have o4:=bP 4 k1 rfl;have o5:=bP 5 k1 rfl;have o6:=bP 6 k1 rfl;have f0:=bL k1 0;have f1:=bL k1 1;have f2:=bL k1 2;have f3:=bL k1 3;have f4:=bL k1 4;have f5:=bL k1 5;have f6:=bL k1 6;clear k1 hB1;go_wp2;refine br_ (v:=.agg #[I_ C.pos,I_ C.line,I_ C.iH,I_ C.mode,I_ C.iW,I_ nh,I_ C.steps]) (by simp [results,Tryz.results52,go_sem,o0,o1,o2,o3,o4,o5,o6]) rfl ⟨rfl,?_⟩;exact ((((((b1.setCell di _).setCell di _).setCell di _).setCell di _).setCell di _).setCell di _).setCell di _
theorem Vh (g:Nat) (E:bH) (ve vr vc vh:V_) (C:bI) (fault:Int) (w:W_) (m:jW w g E ve vr vc vh C fault) (hp:iy E.p) (hr:0<=C.rule/\C.rule<E.p.rules.length) :
  C_ 126 #[p_ g] w (aa8 (I_ (Pu.wrong E.p E.depth C)) w):=by
 obtain⟨-,⟨gr,cr,rfl,hr1,hr2⟩,-⟩:=m.l.aaf hp;have c1:=m.cell (j:=1) rfl;have c4:=m.cell (j:=4) rfl;have c17:=m.cell (j:=17) rfl;have c22:=m.cell (j:=22) rfl;have c23:=m.cell (j:=23) rfl;have q:=Nq m.l.r (i:=C.rule.toNat) (by omega);have q1:=q.2.1;have HW:Hid (Pu.wrong E.p E.depth C=if C.marked=0 then 4 else if (Pu.rg E.p.rules C.rule.toNat).act=2/\E.depth<=C.iW then 6 else if (Pu.rg E.p.rules C.rule.toNat).act=3/\C.iW=0 then 7 else 0):=rfl;obtain⟨k,hk⟩:=Int.eq_ofNat_of_zero_le hr.1;rw [hk] at c22 q1 hr HW;rw [HW.o];rw [tn_] at q1 |-
 have hkl:k<E.p.rules.length:=by omega
 clear q m hk HW hr;generalize (Pu.rg E.p.rules k).act=a at *;generalize E.p.rules.length=nr at *;generalize C.marked=mk at *;generalize C.iW=dp at *;generalize E.depth=dt at *;by_cases h0:mk=0
 .subst h0;go_enter Tryz.func126,Tryz.ntmps126;go_wp2;go_ret;exact⟨by simp,0,rfl⟩
 have d0:(mk == 0)=false:=by simpa using h0
 by_cases h2:a=2
 .subst h2;by_cases hd:dt<=dp
  rotate_left
  focus have hd':decide (dt<=dp)=false:=by simpa using hd
  all_goals
   go_enter Tryz.func126,Tryz.ntmps126
   go_wp2_with fail
   go_quiet (fail)
   go_wp2_with fail
   go_quiet (fail);go_wp2;go_ret;exact⟨by simp,_,rfl⟩
 have d2:(a == 2)=false:=by simpa using h2
 by_cases h3:a=3
 .subst h3;by_cases hd:dp=0
  focus subst hd
  rotate_left
  focus have hd':(dp == 0)=false:=by simpa using hd
  all_goals
   go_enter Tryz.func126,Tryz.ntmps126
   go_wp2_with fail
   go_quiet (fail);go_wp2;go_ret;exact⟨by simp,_,rfl⟩
 have d3:(a == 3)=false:=by simpa using h3
 go_enter Tryz.func126,Tryz.ntmps126
 go_wp2_with fail
 go_quiet (fail);go_wp2;go_ret
 exact⟨by simp,_,rfl⟩
def aga (v:V_) (g:Nat) (E:bH) (ve vr vc vh:V_) (C:bI) (fault:Int) (w:W_) (e:Ending) (w':W_):Prop:=
 e=.returned v/\jW w' g E ve vr vc vh C fault/\w.grownBy w' (some g)
def rX (b:Y_) (k:Nat) (C:bI):bI:={ C with pos:=C.pos+k,line:=(qf b 0 k (C.line,C.iH)).1,iH:=(qf b 0 k (C.line,C.iH)).2 }
theorem ZQ (g:Nat) (E:bH) (ve vr vc vh:V_) (C:bI) (fault:Int) (b:Y_) (w:W_) (m:jW w g E ve vr vc vh C fault)
  (hp:0<=C.pos/\C.pos<=1125899906842624) (hl:1<=C.line/\C.line<=1125899906842624) (hc:1<=C.iH/\C.iH<=1125899906842624) (hb:b.size<=1125899906842624) :
  C_ 128 #[p_ g,.string b] w (aga (.tuple #[]) g E ve vr vc vh (rX b b.size C) fault w):=by
 have M:=bK m;clear m;go_enter Tryz.func128,Tryz.ntmps128
 go_wp2_with fail
 go_loopw [4] (fun i wr=>∃k:Nat,k<=b.size/\i=I_ k/\jW wr g E ve vr vc vh (rX b k C) fault/\w.grownBy wr (some g)) (fun i _=>b.size-(intOf i).toNat)
 case atStart=>exact⟨0,zl_ _,rfl,by
  have:rX b 0 C=C:=by simp [rX,qf]
  rw [this];exact M.o,⟨rfl,rfl,rfl,di,fun _ _ _=>rfl⟩⟩
 case round=>
  clear M;obtain⟨k,hk,rfl,hm,hg⟩:=hrel;by_cases hlt:k<b.size
  .have x0:=fun w=>dU b (k:Int) k rfl hlt w
   have c5:=hm.cell (j:=5) rfl;have c6:=hm.cell (j:=6) rfl;have c7:=hm.cell (j:=7) rfl;have f5:=hm.frozen 5;have f6:=hm.frozen 6;have f7:=hm.frozen 7;have hB:=I9 b 0 k (C.line,C.iH) hl.1 hc.1;simp only at hB;have hk1:(k:Int)<b.size:=by omega
   have HK:Hid (jW wr g E ve vr vc vh { C with pos:=C.pos+k,line:=(qf b 0 k (C.line,C.iH)).1,iH:=(qf b 0 k (C.line,C.iH)).2 } fault/\w.grownBy wr (some g)):=And.intro hm hg
   have EP:Hid (rX b (k+1) C={ C with pos:=C.pos+k+1,line:=if bt b k=10 then (qf b 0 k (C.line,C.iH)).1+1 else (qf b 0 k (C.line,C.iH)).1,iH:=if bt b k=10 then 1 else (qf b 0 k (C.line,C.iH)).2+1 }):=by
    show rX b (k+1) C=_;unfold rX;simp only [qf,Nat.zero_add];have e1:C.pos+((k+1:Nat):Int)=C.pos+k+1:=by omega
    rw [e1];by_cases h:bt b k=10
    .simp only [if_pos h]
    .simp only [if_neg h]
   clear hm hg;unfold rX at c5 c6 c7;simp only at c5 c6 c7;generalize (qf b 0 k (C.line,C.iH)).1=L at *;generalize (qf b 0 k (C.line,C.iH)).2=K at *;generalize bt b k=y at *;by_cases hy:y=10
   .subst hy;go_wp2
    go_roundw
    case rel=>
     refine⟨k+1,by omega,by go_num,?_,?_⟩
     .rw [EP.o,if_pos rfl,if_pos rfl];exact (((HK.o.1.set 5 (I_ (C.pos+k+1)) E rfl (D:={ C with pos:=C.pos+k+1,line:=L,iH:=K }) rfl).set 7 (I_ (K+1)) E rfl (D:={ C with pos:=C.pos+k+1,line:=L,iH:=K+1 }) rfl).set 6 (I_ (L+1)) E rfl (D:={ C with pos:=C.pos+k+1,line:=L+1,iH:=K+1 }) rfl).set 7 (I_ 1) E rfl rfl
     .exact eU (eU (eU (eU HK.o.2 _ _) _ _) _ _) _ _
    case measure=>simp [intOf];omega
   .have dy:(y == 10)=false:=by simpa using hy
    go_wp2
    go_roundw
    case rel=>
     refine⟨k+1,by omega,by go_num,?_,?_⟩
     .rw [EP.o,if_neg hy,if_neg hy];exact (HK.o.1.set 5 (I_ (C.pos+k+1)) E rfl (D:={ C with pos:=C.pos+k+1,line:=L,iH:=K }) rfl).set 7 (I_ (K+1)) E rfl rfl
     .exact eU (eU HK.o.2 _ _) _ _
    case measure=>simp [intOf];omega
  .have hkl:k=b.size:=by omega
   subst hkl;have HK:=bK (And.intro hm hg);clear hm hg;go_wp2
   go_end0
   exact⟨rfl,HK.o.1,HK.o.2⟩
def wF (r:mJ) (C:bI):bI:={ C with mode:=fO r C,kK:=lG r C,iW:=lZ r C }
theorem abp (g:Nat) (E:bH) (ve vr vc vh:V_) (C:bI) (fault:Int) (r:mJ) (w:W_) (m:jW w g E ve vr vc vh C fault)
  (hl:C.kK.length=8) (hd:0<=C.iW/\C.iW<=8) (h2:r.act=2->C.iW<8) (h3:r.act=3->0<C.iW) :
  C_ 129 #[p_ g,.agg #[I_ r.emit,I_ r.act,I_ r.mode]] w (aga (.tuple #[]) g E ve vr vc vh (wF r C) fault w):=by
 obtain⟨em,a,md⟩:=r;simp only at *;obtain⟨d,hdd⟩:=Int.eq_ofNat_of_zero_le hd.1;have hlt:=bO m.fA;have hne:g≠w.heap.size:=by omega
 have hne':w.heap.size≠g:=by omega
 have c8:=m.cell (j:=8) rfl;have c17:=m.cell (j:=17) rfl;have f8:=m.frozen 8;have f17:=m.frozen 17;rw [hdd] at c17 hd h2 h3
 have G0:Hid (w.grownBy w (some g)):=⟨rfl,rfl,rfl,di,fun _ _ _=>rfl⟩
 have HM:=bK m;by_cases h1:a=1
 .subst h1;have EP:Hid (wF ⟨em,1,md⟩ C={ C with mode:=md }):=by show _=_;simp [wF,fO,lG,lZ]
  rw [EP.o];clear m hdd EP;go_enter Tryz.func129,Tryz.ntmps129;go_wp2
  go_end0
  exact⟨rfl,(HM.o.set 8 (I_ md) E rfl rfl).alloc _,oZ (eU G0.o _ _) _⟩
 have d1:(a == 1)=false:=by simpa using h1
 by_cases h2':a=2
 .subst h2';have hd8:=h2 rfl;have U6:d<8:=by omega
  have fd:=m.frozen (9+d);have n1:¬(17=9+d):=by omega
  have n2:¬(8=9+d):=by omega
  have n3:¬(9+d=17):=by omega
  have n4:¬(9+d=8):=by omega
  have cd:=m.cell (j:=9+d) (qW U6);have EP:Hid (wF ⟨em,2,md⟩ C={ C with mode:=md,kK:=C.kK.set d C.mode,iW:=d+1 }):=by show _=_;simp [wF,fO,lG,lZ,hdd]
  rw [EP.o];have M1:=bK (HM.o.set (9+d) (I_ C.mode) E rfl (G6 U6 hl _));have T1:Hid (∀o,((w.setCell (a_ g (9+d)) (I_ C.mode)).alloc o).cell? (a_ g 17)=some (I_ d)/\((w.setCell (a_ g (9+d)) (I_ C.mode)).alloc o).cell? (a_ g 8)=some (I_ C.mode)):=fun o=>⟨(M1.o.alloc o).cell (j:=17) (by show some (I_ C.iW)=_;rw [hdd]),(M1.o.alloc o).cell (j:=8) rfl⟩
  clear m hdd EP h2 h3;go_enter Tryz.func129,Tryz.ntmps129
  go_wp2_with fail
  go_region_held3 (fun w'=>w'.cell? (a_ g 17)=some (I_ d)/\w'.cell? (a_ g 8)=some (I_ C.mode)) (first | exact T1.o _ | go_keep) (fail)
  clear T1
  all_goals go_wp2
  all_goals go_end0
  all_goals exact⟨rfl,(((M1.o.set 17 (I_ (d+1)) E rfl (D:={ C with kK:=C.kK.set d C.mode,iW:=d+1 }) rfl).set 8 (I_ md) E rfl rfl).alloc _).drew,rJ (oZ (eU (eU (eU G0.o _ _) _ _) _ _) _)⟩
 have d2:(a == 2)=false:=by simpa using h2'
 by_cases h3':a=3
 .subst h3';have hd0:=h3 rfl;obtain⟨k,hk⟩:∃k,d=k+1:=⟨d-1,by omega⟩;subst hk;have U6:k<8:=by omega
  have cd:=m.cell (j:=9+k) (qW U6);have i1:=jg k;have i2:(k:Int)<8:=by omega
  have n1:¬(17=9+k):=by omega
  have n2:¬(8=9+k):=by omega
  have n3:¬(9+k=17):=by omega
  have n4:¬(9+k=8):=by omega
  have EP:Hid (wF ⟨em,3,md⟩ C={ C with mode:=Pu.aU C.kK k,iW:=k }):=by
   show _=_;have e1:(C.iW-1).toNat=k:=by omega
   have e2:C.iW-1=k:=by omega
   simp [wF,fO,lG,lZ,e2]
  rw [EP.o];have e3:((k+1:Nat):Int)=k+1:=by omega
  rw [e3] at c17;have M1:=bK (HM.o.set 17 (I_ k) E rfl (D:={ C with iW:=k }) rfl);have M2:=bK (M1.o.set 8 (I_ (Pu.aU C.kK k)) E rfl (D:={ C with iW:=k,mode:=Pu.aU C.kK k }) rfl);have T1:Hid (∀o,((w.setCell (a_ g 17) (I_ k)).alloc o).cell? (a_ g 17)=some (I_ k)/\((w.setCell (a_ g 17) (I_ k)).alloc o).cell? (a_ g (9+k))=some (I_ (Pu.aU C.kK k))):=fun o=>⟨(M1.o.alloc o).cell (j:=17) rfl,(M1.o.alloc o).cell (j:=9+k) (qW U6)⟩
  have T2:Hid (∀o,(((w.setCell (a_ g 17) (I_ k)).setCell (a_ g 8) (I_ (Pu.aU C.kK k))).alloc o).cell? (a_ g 17)=some (I_ k)/\(((w.setCell (a_ g 17) (I_ k)).setCell (a_ g 8) (I_ (Pu.aU C.kK k))).alloc o).cell? (a_ g (9+k))=some (I_ (Pu.aU C.kK k))):=fun o=>⟨(M2.o.alloc o).cell (j:=17) rfl,(M2.o.alloc o).cell (j:=9+k) (qW U6)⟩
  clear m hdd EP h2 h3;go_enter Tryz.func129,Tryz.ntmps129
  go_wp2_with fail
  go_region_held3 (fun w'=>w'.cell? (a_ g 17)=some (I_ k)/\w'.cell? (a_ g (9+k))=some (I_ (Pu.aU C.kK k))) (first | exact T1.o _ | exact T2.o _ | go_keep) (fail)
  clear T1 T2
  all_goals go_wp2
  all_goals go_end0
  all_goals exact⟨rfl,(((HM.o.set 17 (I_ k) E rfl (D:={ C with iW:=k }) rfl).set 8 (I_ (Pu.aU C.kK k)) E rfl rfl).alloc _).drew,rJ (oZ (eU (eU G0.o _ _) _ _) _)⟩
 have d3:(a == 3)=false:=by simpa using h3'
 have EP:Hid (wF ⟨em,a,md⟩ C=C):=by show _=_;simp [wF,fO,lG,lZ,h1,h2',h3']
 rw [EP.o];clear m hdd EP h2 h3;go_enter Tryz.func129,Tryz.ntmps129;go_wp2
 go_end0
 exact⟨rfl,HM.o.alloc _,oZ G0.o _⟩
theorem Pu.wD.bound (_g:Pu.Good E f) (h:wD E f C):C.steps<=(E.s.size+1)*Pu.vv E:=by have h1:=h.steps.2;have:=ZT (E:=E) (a:=C.pos) (b:=E.s.size+1) (k:=C.looked) h.looked (by have:=h.within;have:=h.looked;omega);omega
theorem Pu.Good.vv {E:bH} {f:Nat->Int} (g:Pu.Good E f):0<=Pu.vv E/\Pu.vv E<=3250000:=by have n:=g.n1;have m:=g.most;unfold Pu.vv;refine⟨Int.mul_nonneg (by omega) (by omega),?_⟩;have h1:(E.most+1)*(E.p.code.length:Int)<=65*(E.p.code.length:Int):=Int.mul_le_mul_of_nonneg_right (by omega) (by omega);omega
theorem Pu.wD.Oe (g:Pu.Good E f) (h:wD E f C) (hs:E.s.size<=1099511627776):C.steps<=4000000000000000000:=by have h1:=h.bound g;have p:=g.vv;have h2:((E.s.size:Int)+1)*Pu.vv E<=((E.s.size:Int)+1)*3250000:=Int.mul_le_mul_of_nonneg_left p.2 (by omega);omega
def abe (g:Nat) (E:bH) (ve vr vc vh:V_) (C:bI) (w:W_) (e:Ending) (w':W_):Prop:=
 ∃D,qF E C D/\D.err=0/\D.pos=C.pos/\w.grownBy w' (some g)/\
  ((e=.returned (.tuple #[.bool false,I_ 0])/\Pu.look E D=.wait/\jW w' g E ve vr vc vh D 0)\/
   ∃F er,e=.returned (.tuple #[.bool true,I_ er])/\Pu.look E D=.stop F er/\jW w' g E ve vr vc vh F 0)
def pF (f:Nat->Int) (g:Nat) (E:bH) (ve vr vc vh:V_) (C:bI) (w:W_) (gk:Nat) (wr:W_):Prop:=
 ∃D,qF E C D/\wD E f D/\D.err=0/\D.pos=C.pos/\jW wr g E ve vr vc vh D 0/\w.grownBy wr (some g)/\gk=((E.s.size+1)*Pu.vv E-D.steps).toNat
theorem pF.next {wr:W_} (gd:Pu.Good E f) (r:qF E C D) (h:wD E f D) (he:D.err=0) (hp:D.pos=C.pos) (hpos:D.pos<E.s.size) (hl:Pu.look E D=.go F)
  (m:jW wr g E ve vr vc vh F 0) (hg:w.grownBy wr (some g)):∃k,k<((E.s.size+1)*Pu.vv E-D.steps).toNat/\pF f g E ve vr vc vh C w k wr:=by
 have q:=Da gd h he hl;have b:=q.1.bound gd;refine⟨((E.s.size+1)*Pu.vv E-F.steps).toNat,by rw [q.2.2.2.1] at b |-;omega,F,.step r ?_,q.1,q.2.1,q.2.2.1.trans hp,m,hg,rfl⟩;unfold AY;rw [if_neg (by omega),hl]
theorem Z9 (f:Nat->Int) (g:Nat) (E:bH) (ve vr vc vh:V_) (C:bI) (w:W_) (gd:Pu.Good E f) (h:wD E f C) (he:C.err=0) (hpos:C.pos<E.s.size) (hs:E.s.size<=1099511627776) (m:jW w g E ve vr vc vh C 0) :
  C_ 125 #[p_ g,.string (E.s.extract C.pos.toNat E.s.size)] w (abe g E ve vr vc vh C w):=by
 obtain⟨-,-,⟨gc,cc,rfl,hc1,hc2⟩⟩:=m.l.aaf gd.right
 have H0:Hid (pF f g E ve vr (s_ gc E.p.code.length cc) vh C w ((E.s.size+1)*Pu.vv E-C.steps).toNat w):=⟨C,.refl _,h,he,rfl,m,⟨rfl,rfl,rfl,di,fun _ _ _=>rfl⟩,rfl⟩
 have hp0:=h.pos;have GD:=bK gd;have PC:Hid (C.pos<E.s.size):=hpos;have BT:Hid (∀n,C.pos.toNat+n<E.s.size->bt (E.s.extract C.pos.toNat E.s.size) n=bt E.s (C.pos.toNat+n)):=fun n hn=>iL E.s C.pos.toNat E.s.size n di hn
 have Xn:Hid ((E.s.extract C.pos.toNat E.s.size).size=E.s.size-C.pos.toNat):=by show _=_;simp
 generalize E.s.extract C.pos.toNat E.s.size=rest at *;clear h he m gd hpos;go_enter Tryz.func125,Tryz.ntmps125
 go_wp2_with fail
 go_loopg [] ((E.s.size+1)*Pu.vv E-C.steps).toNat (fun gk wr=>pF f g E ve vr (s_ gc E.p.code.length cc) vh C w gk wr)
 case atStart=>exact H0.o
 case round=>
  clear H0;obtain⟨D,hr,hst,he,hpp,hm,hg,rfl⟩:=hrel;have HR:=bK (And.intro hr (And.intro hst (And.intro he hpp)));have hi:=hst.ins;have hi':=(hst.live he).1;have hlk:=hst.looked;have hmk:=hst.marked;have hcc:=hst.c;have hstp:=hst.steps.1;have hstb:=hst.Oe GD.o hs;have hwi:=hst.within;have n1:=GD.o.n1;have m1:=GD.o.most;obtain⟨k,hk⟩:=Int.eq_ofNat_of_zero_le hi.1;have hk1:k<E.p.code.length:=by omega
  have hk2:(k:Int)<E.p.code.length:=by omega
  obtain⟨lk,aeu⟩:=Int.eq_ofNat_of_zero_le hlk.1;have c2:=hm.cell (j:=2) rfl;have c19:=hm.cell (j:=19) rfl;rw [hk] at c19;have HM:=bK (And.intro hm hg);have HK:=bK (And.intro hk aeu);have ok:=GD.o.adt hk1;have nx:=GD.o.next hk1;rw [hpp] at hwi;rw [aeu] at hlk hmk hwi;clear hm hg hr hst hk hi hi' aeu hpp he
  go_wp2_with fail
  go_quiet (fail);clear c2 c19;have HM1:=bK (And.intro (HM.o.1.drewN nq) (mZ HM.o.2 nq));clear HM;generalize wr.drewN nq=W at *;have hm:=HM1.o.1;have q:=acy hm.l.c hk1;have aW:=q.1;have q1:=q.2.1;have q2:=q.2.2.1;have q3:=q.2.2.2;have yV:=Tx hm.l.c hm.fA (by decide);have glt:=bO hm.fA;have clt:=(lI hm.l.c).2;have c2:=hm.cell (j:=2) rfl;have c19:=hm.cell (j:=19) rfl;rw [HK.o.1] at c19;have ne1:g≠W.heap.size:=by omega
  have yZ:gc≠W.heap.size:=by omega
  have aco:W.heap.size≠g:=by omega
  have ZF:W.heap.size≠gc:=by omega
  have ne3:g≠gc:=fun e=>yV e.symm
  unfold rz at ok;clear q hm
  go_wp2_with fail
  generalize hX:Pu.aO E.p.code k=x at *;have HX:=bK hX;clear hX
  go_region_held3 (fun w'=>w'.cell? (a_ g 2)=some (s_ gc E.p.code.length cc)/\w'.cell? (a_ g 19)=some (I_ k)/\w'.cell? (a_ gc (k*4))=some (I_ x.op)/\w'.cell? (a_ gc (k*4+1))=some (I_ x.a)/\w'.cell? (a_ gc (k*4+2))=some (I_ x.b)/\w'.cell? (a_ gc (k*4+3))=some (I_ x.bG)) (go_keep) (fail)
  rename_i hh
  clear hh aW q1 q2 q3 c2 c19;have M2:=bK (And.intro (HM1.o.1.alloc (c_ #[I_ x.op,I_ x.a,I_ x.b,I_ x.bG] 61)).drew (rJ (oZ HM1.o.2 (c_ #[I_ x.op,I_ x.a,I_ x.b,I_ x.bG] 61))));have KI:dh (W.alloc (c_ #[I_ x.op,I_ x.a,I_ x.b,I_ x.bG] 61)).drew W.heap.size 61 [I_ x.op,I_ x.a,I_ x.b,I_ x.bG]:=hn_ _ _;clear HM1;generalize (W.alloc (c_ #[I_ x.op,I_ x.a,I_ x.b,I_ x.bG] 61)).drew=X at *;generalize W.heap.size=gi at *;have aS:=bP 0 KI rfl;have i1:=bP 1 KI rfl;have i2:=bP 2 KI rfl;have i3:=bP 3 KI rfl;clear KI yV glt clt yZ ZF ne3 hc1 hc2;have hm:=M2.o.1;have c3:=hm.cell (j:=3) rfl;have c18:=hm.cell (j:=18) rfl;have c19:=hm.cell (j:=19) rfl;have c20:=hm.cell (j:=20) rfl;have c21:=hm.cell (j:=21) rfl;have c22:=hm.cell (j:=22) rfl;have c23:=hm.cell (j:=23) rfl;have c25:=hm.cell (j:=25) rfl;have f18:=hm.frozen 18;have f19:=hm.frozen 19;have f20:=hm.frozen 20;have f21:=hm.frozen 21;have f22:=hm.frozen 22;have f23:=hm.frozen 23;rw [HK.o.1] at c19;rw [HK.o.2] at c21;clear hm;have LOOK:Hid (∀r,Pu.look E D=r↔Pu.look E D=r):=fun _=>Iff.rfl
  have e1:D.ins.toNat=k:=by rw [HK.o.1];rfl
  have E1:=bK e1;clear e1 LOOK;have El:Hid (D.pos<E.s.size):=by show D.pos<_;rw [HR.o.2.2.2];exact PC.o
  have A1:=M2.o.1.set 18 (I_ (D.steps+1)) E rfl (D:={ D with steps:=D.steps+1 }) rfl;have A2:=bK (A1.set 19 (I_ (k+1)) E rfl (D:={ D with steps:=D.steps+1,ins:=D.ins+1 }) (by rw [HK.o.1];rfl));have G2:=bK (eU (eU M2.o.2 18 (I_ (D.steps+1))) 19 (I_ (k+1)));clear A1;by_cases o4:x.op=4
  .have t1:0<=x.bG/\x.bG<E.p.code.length:=by omega
   have HL:Hid (Pu.look E D=.go { D with steps:=D.steps+1,ins:=x.bG }):=by show _=_;unfold Pu.look;rw [E1.o,HX.o];simp [o4]
   rw [o4] at aS;clear ok nx;go_wp2;obtain⟨kk,hkk⟩:=pF.next GD.o HR.o.1 HR.o.2.1 HR.o.2.2.1 HR.o.2.2.2 El.o HL.o (A2.o.set 19 (I_ x.bG) E rfl rfl) (eU G2.o 19 (I_ x.bG));go_roundg kk
   case measure=>exact hkk.1
   case rel=>exact hkk.2
  by_cases o5:x.op=5
  .have HL:Hid (Pu.look E D=.stop { D with steps:=D.steps+1,ins:=D.ins+1 } 0):=by show _=_;unfold Pu.look;rw [E1.o,HX.o];simp [o5]
   rw [o5] at aS;clear ok nx;go_wp2
   go_ret2
   exact⟨D,HR.o.1,HR.o.2.2.1,HR.o.2.2.2,G2.o,.inr ⟨_,_,rfl,HL.o,A2.o⟩⟩
  by_cases o1:x.op=1
  .rw [o1] at aS;have nn:=nx (by omega);clear nx;by_cases hl0:0<lk
   .have HL:Hid (Pu.look E D=.go { D with steps:=D.steps+1,ins:=D.ins+1,rule:=x.a,marked:=D.looked }):=by show _=_;unfold Pu.look;rw [E1.o,HX.o,HK.o.2];simp [o1,hl0]
    have hl1:(0:Int)<lk:=by omega
    clear ok;go_wp2;obtain⟨kk,hkk⟩:=pF.next GD.o HR.o.1 HR.o.2.1 HR.o.2.2.1 HR.o.2.2.2 El.o HL.o ((A2.o.set 22 (I_ x.a) E rfl (D:={ D with steps:=D.steps+1,ins:=D.ins+1,rule:=x.a }) rfl).set 23 (I_ lk) E rfl (by rw [HK.o.2];rfl)) (eU (eU G2.o 22 (I_ x.a)) 23 (I_ lk));go_roundg kk
    case measure=>exact hkk.1
    case rel=>exact hkk.2
   .have hz:lk=0:=by omega
    have HL:Hid (Pu.look E D=.go { D with steps:=D.steps+1,ins:=D.ins+1 }):=by show _=_;unfold Pu.look;rw [E1.o,HX.o,HK.o.2];simp [o1,hz]
    subst hz;clear ok;go_wp2;obtain⟨kk,hkk⟩:=pF.next GD.o HR.o.1 HR.o.2.1 HR.o.2.2.1 HR.o.2.2.2 El.o HL.o A2.o G2.o;go_roundg kk
    case measure=>exact hkk.1
    case rel=>exact hkk.2
  by_cases o3:x.op=3
  .rw [o3] at aS;have nn:=nx (by omega);have t1:0<=x.bG/\x.bG<E.p.code.length:=by omega
   clear nx ok;by_cases ha:x.a<=D.c
   .by_cases hb:D.c<=x.b
    .have HL:Hid (Pu.look E D=.go { D with steps:=D.steps+1,ins:=x.bG }):=by show _=_;unfold Pu.look;rw [E1.o,HX.o];simp [o3,ha,hb]
     go_wp2_with fail
     go_quiet (fail);go_wp2;obtain⟨kk,hkk⟩:=pF.next GD.o HR.o.1 HR.o.2.1 HR.o.2.2.1 HR.o.2.2.2 El.o HL.o ((A2.o.set 19 (I_ x.bG) E rfl rfl).drewN nq) (mZ (eU G2.o 19 (I_ x.bG)) nq);go_roundg kk
     case measure=>exact hkk.1
     case rel=>exact hkk.2
    .have hb':decide (D.c<=x.b)=false:=by simpa using hb
     have HL:Hid (Pu.look E D=.go { D with steps:=D.steps+1,ins:=D.ins+1 }):=by show _=_;unfold Pu.look;rw [E1.o,HX.o];simp [o3,hb]
     go_wp2_with fail
     go_quiet (fail);go_wp2;obtain⟨kk,hkk⟩:=pF.next GD.o HR.o.1 HR.o.2.1 HR.o.2.2.1 HR.o.2.2.2 El.o HL.o (A2.o.drewN nq) (mZ G2.o nq);go_roundg kk
     case measure=>exact hkk.1
     case rel=>exact hkk.2
   .have ha':decide (x.a<=D.c)=false:=by simpa using ha
    have HL:Hid (Pu.look E D=.go { D with steps:=D.steps+1,ins:=D.ins+1 }):=by show _=_;unfold Pu.look;rw [E1.o,HX.o];simp [o3,ha]
    go_wp2_with fail
    go_quiet (fail);go_wp2;obtain⟨kk,hkk⟩:=pF.next GD.o HR.o.1 HR.o.2.1 HR.o.2.2.1 HR.o.2.2.2 El.o HL.o (A2.o.drewN nq) (mZ G2.o nq);go_roundg kk
    case measure=>exact hkk.1
    case rel=>exact hkk.2
  have o2:x.op=2:=by omega
  rw [o2] at aS;have nn:=nx (by omega);clear nx ok;have PP:=HR.o.2.2.2;by_cases sp:rest.size<=lk
  .have sp1:(rest.size:Int)<=lk:=by omega
   have sp2:(E.s.size:Int)<=D.pos+D.looked:=by rw [HK.o.2,PP];have:=Xn.o;omega
   have SP:=bK sp2;clear sp2 PP;cases hE:E.ended
   .rw [hE] at c25;have HL:Hid (Pu.look E D=.wait):=by show _=_;unfold Pu.look;rw [E1.o,HX.o];simp [o2,hE,SP.o]
    go_wp2
    go_ret2
    exact⟨D,HR.o.1,HR.o.2.2.1,HR.o.2.2.2,M2.o.2,.inl ⟨rfl,HL.o,M2.o.1⟩⟩
   .rw [hE] at c25;have HL:Hid (Pu.look E D=.stop { D with steps:=D.steps+1,ins:=D.ins+1 } 0):=by show _=_;unfold Pu.look;rw [E1.o,HX.o];simp [o2,hE,SP.o]
    go_wp2
    go_ret2
    exact⟨D,HR.o.1,HR.o.2.2.1,HR.o.2.2.2,G2.o,.inr ⟨_,_,rfl,HL.o,A2.o⟩⟩
  .have sp1:decide ((rest.size:Int)<=lk)=false:=by simp;omega
   have sp2:¬(E.s.size:Int)<=D.pos+D.looked:=by rw [HK.o.2,PP];have:=Xn.o;omega
   have SP:=bK sp2;have sp3:(lk:Int)<rest.size:=by omega
   have x0:=fun w=>dU rest (lk:Int) lk rfl (by omega) w
   have bx:=BT.o lk (by have:=Xn.o;omega);rw [bx] at x0;have bb:=iC E.s (C.pos.toNat+lk);have HB:Hid (bt E.s (D.pos+D.looked).toNat=bt E.s (C.pos.toNat+lk)):=by show _=_;rw [HK.o.2,PP];congr 1;omega
   clear sp2 PP sp bx;by_cases hm:E.most<=lk
   .have HL:Hid (Pu.look E D=.stop { D with steps:=D.steps+1,ins:=D.ins+1 } 5):=by
     show _=_;have h1:=SP.o;have h2:E.most<=D.looked:=by rw [HK.o.2];exact hm
     unfold Pu.look;rw [E1.o,HX.o];simp only;rw [if_neg o1,if_pos o2,if_neg h1,if_pos h2]
    cases hE:E.ended
    all_goals
     rw [hE] at c25
     go_wp2_with fail
     go_quiet (fail);go_wp2
     go_ret2
     exact⟨D,HR.o.1,HR.o.2.2.1,HR.o.2.2.2,mZ G2.o nq,.inr ⟨_,_,rfl,HL.o,A2.o.drewN nq⟩⟩
   .have HL:Hid (Pu.look E D=.go { D with steps:=D.steps+1,ins:=D.ins+1,c:=bt E.s (C.pos.toNat+lk),looked:=D.looked+1 }):=by
     show _=_;have h1:=SP.o;have h2:¬E.most<=D.looked:=by rw [HK.o.2];exact hm
     unfold Pu.look;rw [E1.o,HX.o,<-HB.o];simp only;rw [if_neg o1,if_pos o2,if_neg h1,if_neg h2]
    have hm1:decide (E.most<=(lk:Int))=false:=by simpa using hm
    clear HB SP hm;generalize bt E.s (C.pos.toNat+lk)=y at *;have A3:=bK (A2.o.set 20 (I_ y) E rfl (D:={ D with steps:=D.steps+1,ins:=D.ins+1,c:=y }) rfl);have A4:=bK (A3.o.set 21 (I_ (lk+1)) E rfl (D:={ D with steps:=D.steps+1,ins:=D.ins+1,c:=y,looked:=D.looked+1 }) (by rw [HK.o.2];rfl));have G4:=bK (eU (eU G2.o 20 (I_ y)) 21 (I_ (lk+1)));cases hE:E.ended
    all_goals
     rw [hE] at c25
     go_wp2_with fail
     go_quiet (fail);go_wp2;obtain⟨kk,hkk⟩:=pF.next GD.o HR.o.1 HR.o.2.1 HR.o.2.2.1 HR.o.2.2.2 El.o HL.o (A4.o.drewN nq) (mZ G4.o nq);go_roundg kk
     case measure=>exact hkk.1
     case rel=>exact hkk.2
def eB (l:List bJ):List V_:=l.flatMap (fun t=>[I_ t.rule,I_ t.pos,I_ t.len,I_ t.line,I_ t.iH])
theorem ug (l:List bJ) (t:bJ):eB (l++[t])=eB l++[I_ t.rule,I_ t.pos,I_ t.len,I_ t.line,I_ t.iH]:=by simp [eB]
theorem Tryz.info74 : (Tryz.prog.info? 74).map (fun i=>(i.zero,i.size,i.bytes))=some (some (.agg #[I_ 0,I_ 0,I_ 0,I_ 0,I_ 0]),5,40):=by kernel_rfl
def ng (E:bH) (D:bI):Y_:=if D.err≠0 then ⟨#[]⟩ else E.s.extract D.pos.toNat E.s.size
structure Scn (w:W_) (g:Nat) (E:bH) (D:bI) (f:Nat->Int) (ve vr vc vh:V_):Prop where
 m:jW w g E ve vr vc vh D D.err
 h:lV w vh (ng E D)
 good:Pu.Good E f
 sta:wD E f D
def Dq (f:Nat->Int) (g:Nat) (E:bH) (ve vr vc:V_) (C:bI) (w:W_) (e:Ending) (w':W_):Prop:=
 ∃D T vt vh,Pu.Runs E C D/\D.dV=C.dV++T/\e=.returned (.tuple #[vt,I_ D.err])/\w'.ownsRow w.heap.size 74 5 vt T.length (eB T)/\Scn w' g E D f ve vr vc vh/\w.grownBy w' (some g)
structure Xg (f:Nat->Int) (g:Nat) (E:bH) (ve vr vc vh:V_) (C:bI) (w:W_) (D:bI) (T:List bJ) (vt:V_) (wr:W_):Prop where
 r:qF E C D
 sta:wD E f D
 err:D.err=0
 dV:D.dV=C.dV++T
 own:wr.ownsRow w.heap.size 74 5 vt T.length (eB T)
 m:jW wr g E ve vr vc vh D 0
 gr:w.grownBy wr (some g)
theorem DY (w:W_) (s:Y_) (hs:s.size<=9223372036854775807):∃cap w',(convert 9 152 (.string s)).run Tryz.prog w=.ok (s_ w.heap.size s.size cap) w'/\B_ w w'/\lV w' (s_ w.heap.size s.size cap) s:=by refine⟨_,_,Lib.run_convert_string_bytes w 9 152 5 s Tryz.underlying9 Tryz.underlying152 Tryz.underlying5,⟨rfl,rfl,rfl,by rw [Lib.bytesWorld_size];omega,fun k hk=>Lib.bytesWorld_at_old w _ s k hk⟩,.inr ⟨w.heap.size,_,_,_,rfl,grownCap_ge _ _ _ _,grownCap_le_maxLen _ _ _ _ (by unfold maxLen;exact hs),Lib.bytesWorld_at_new w _ s,fun j hj=>?_⟩⟩;have:=Lib.bytesWorld_cell w 5 s j hj;simp only [World.cell?,Lib.bytesWorld_at_new] at this;simpa [bt] using this
theorem Pu.qF.quiet (g:Pu.Good E f) (r:qF E C D) (h:wD E f C):C.pos<=D.pos/\(D.pos=C.pos->D.err=0->D.dV=C.dV):=by
 induction r with
 | refl=>exact⟨Int.le_refl _,fun _ _=>rfl⟩
 | @step G F r1 hm ih=>
  have hG:=r1.inv g h;unfold AY at hm;split at hm
  .cases hm
  .rename_i hc
   have he:G.err=0:=by
    by_cases e:G.err=0
    .exact e
    .exact absurd (.inl e) hc
   cases hl:Pu.look E G with
   | wait=>rw [hl] at hm;cases hm
   | go F'=>rw [hl] at hm;cases hm;have q:=Da g hG he hl;exact⟨by rw [q.2.2.1];exact ih.1,fun hp _=>by rw [q.2.2.2.2];exact ih.2 (by rw [<-q.2.2.1];exact hp) he⟩
   | stop F' e=>
    rw [hl] at hm;cases hm;have q:=rf g hG he hl;unfold Pu.take;split
    .refine⟨by show C.pos<=F'.pos;rw [q.2.1];exact ih.1,fun _ hz=>?_⟩;exact absurd hz (by assumption)
    .split
     .refine⟨by show C.pos<=F'.pos;rw [q.2.1];exact ih.1,fun _ hz=>?_⟩;exact absurd hz (by assumption)
     .rename_i hne hw
      have t:=sH g q.1 (by omega);have:=ih.1;exact⟨by have:=t.2.2.1;omega,fun hp _=>by have:=t.2.2.1;omega⟩
theorem XX {b s:Y_} {a:Nat} {q:Int × Int}:∀(n:Nat),(∀i,i<n->bt b i=bt s (a+i))->qf b 0 n q=qf s a n q
 | 0,_=>rfl
 | n+1,h=>by simp only [qf];rw [XX n (fun i hi=>h i (by omega)),Nat.zero_add,h n (by omega)]
theorem jW.MN (m:jW w g E ve vr vc vh C fault) (h:kG ve vr vc vh E.most E.depth C E.ended fault=kG ve vr vc vh E.most E.depth D E.ended fault):jW w g E ve vr vc vh D fault:=
 ⟨by rw [<-h];exact m.fA,m.l⟩
structure mq (g:Nat) (E:bH) (ve vr vc vh:V_) (w:W_) (T:List bJ) (vt:V_) (F:bI) (W:W_):Prop where
 own:W.ownsRow w.heap.size 74 5 vt T.length (eB T)
 m:jW W g E ve vr vc vh F 0
 gr:w.grownBy W (some g)
theorem mq.on {F':bI} (k:mq g E ve vr vc vh w T vt F W) (hg:W.grownBy W' (some g)) (hm:jW W' g E ve vr vc vh F' 0):mq g E ve vr vc vh w T vt F' W':=
 ⟨dM k.own k.m.fA (by decide) hg,hm,Lib.grownBy_trans k.gr hg⟩
theorem mq.below {g:Nat} {E:bH} {ve vr vc vh:V_} {w:W_} {T:List bJ} {vt:V_} {F:bI} {W W':W_} (k:mq g E ve vr vc vh w T vt F W) (hb:B_ W W'):mq g E ve vr vc vh w T vt F W':=
 ⟨bU k.own hb di,k.m.below hb,LZ k.gr hb⟩
theorem mq.alloc {g:Nat} {E:bH} {ve vr vc vh:V_} {w:W_} {T:List bJ} {vt:V_} {F:bI} {W:W_} (k:mq g E ve vr vc vh w T vt F W) (o:Obj):mq g E ve vr vc vh w T vt F (W.alloc o):=
 k.below (mi o)
theorem mq.drew {g:Nat} {E:bH} {ve vr vc vh:V_} {w:W_} {T:List bJ} {vt:V_} {F:bI} {W:W_} (k:mq g E ve vr vc vh w T vt F W):mq g E ve vr vc vh w T vt F W.drew:=
 k.below ((Br_ _ _).drew)
theorem mq.drewN {g:Nat} {E:bH} {ve vr vc vh:V_} {w:W_} {T:List bJ} {vt:V_} {F:bI} {W:W_} (k:mq g E ve vr vc vh w T vt F W) (n:Nat):mq g E ve vr vc vh w T vt F (W.drewN n):=
 k.below (bd_ (Br_ _ _) n)
theorem fK {base e size n t:Nat} {v:V_} {xs ys:List V_} (h:W.ownsRow base e size v n xs) (hb:dh W g t ys) (ht:t≠e) (hg:W.grownBy W' v.ownBlock):dh W' g t ys:=by
 refine bQ hb hg ?_
 intro e1;rcases h.2 with ⟨rfl,_⟩ | ⟨g',cap,cur,rfl,_,hgg,_⟩
 .simp [Value.ownBlock] at e1
 .simp only [Value.ownBlock,Option.some.injEq] at e1;subst e1;unfold dh at hb;rw [hgg] at hb;simp at hb;exact ht hb.2.symm
theorem mq.more {g:Nat} {E:bH} {ve vr vc vh:V_} {w:W_} {T T':List bJ} {vt vt':V_} {F:bI} {W W':W_} (k:mq g E ve vr vc vh w T vt F W) (hg:W.grownBy W' vt.ownBlock) (ho:W'.ownsRow w.heap.size 74 5 vt' T'.length (eB T')):mq g E ve vr vc vh w T' vt' F W':=by
 refine⟨ho,⟨fK k.own k.m.fA (by decide) hg,⟨fC k.m.l.e k.own (by decide) hg,fC k.m.l.r k.own (by decide) hg,fC k.m.l.c k.own (by decide) hg⟩⟩,?_⟩;have s1:=k.gr.size;refine⟨hg.1.trans k.gr.1,hg.2.trans k.gr.2,hg.3.trans k.gr.3,lt_ k.gr.size hg.size,fun j hj hne=>?_⟩;rw [hg.block j (by omega) ?_]
 .exact k.gr.block j hj hne
 .intro e;have:=(ol_ k.own j e.symm).1;omega
theorem mq.again (k:mq g E ve vr vc vh w T vt F W) (x:Int) :
  mq g E ve vr vc vh w T vt { F with ins:=x,c:=0,looked:=0,rule:=0,marked:=0 } (((((W.setCell (a_ g 19) (I_ x)).setCell (a_ g 20) (I_ 0)).setCell (a_ g 21) (I_ 0)).setCell (a_ g 22) (I_ 0)).setCell (a_ g 23) (I_ 0)):=by
 have k1:=k.on (gs_ W g 19 (I_ x)) (k.m.set 19 (I_ x) E rfl (D:={ F with ins:=x }) rfl);have k2:=k1.on (gs_ _ g 20 (I_ 0)) (k1.m.set 20 (I_ 0) E rfl (D:={ F with ins:=x,c:=0 }) rfl);have k3:=k2.on (gs_ _ g 21 (I_ 0)) (k2.m.set 21 (I_ 0) E rfl (D:={ F with ins:=x,c:=0,looked:=0 }) rfl);have k4:=k3.on (gs_ _ g 22 (I_ 0)) (k3.m.set 22 (I_ 0) E rfl (D:={ F with ins:=x,c:=0,looked:=0,rule:=0 }) rfl);exact k4.on (gs_ _ g 23 (I_ 0)) (k4.m.set 23 (I_ 0) E rfl rfl)
theorem Ld {rest:Y_} {b cap:Nat} (gd:Pu.Good E f) (k:mq g E ve vr vc vh w T vt F W) (hB:B_ W W') (hby:lV W' (s_ b rest.size cap) rest)
  (hr:Pu.Runs E C F) (hst:wD E f F) (he:F.err=0) (ht:F.dV=C.dV++T) (hrest:E.s.extract F.pos.toNat E.s.size=rest) :
  Dq f g E ve vr vc C w (.returned (.tuple #[vt,I_ 0])) (W'.setCell (a_ g 24) (s_ b rest.size cap)):=by
 have k':=k.below hB;have hg:=gs_ W' g 24 (s_ b rest.size cap);refine⟨F,T,vt,s_ b rest.size cap,hr,ht,by rw [he],dM k'.own k'.m.fA (by decide) hg,⟨?_,?_,gd,hst⟩,Lib.grownBy_trans k'.gr hg⟩
 .rw [he];exact k'.m.set 24 _ E rfl rfl
 .have e:ng E F=rest:=by unfold ng;rw [if_neg (by omega)];exact hrest
  rw [e];exact hby.on k'.m.fA (by decide) hg
theorem Hm (gd:Pu.Good E f) (k:mq g E ve vr vc vh w T vt F W) (e:Int) (he:e≠0) (hr:qF E C D) (hm:AY E D=some { F with err:=e }) (hst:wD E f { F with err:=e }) (ht:F.dV=C.dV++T) :
  Dq f g E ve vr vc C w (.returned (.tuple #[vt,I_ e])) ((W.setCell (a_ g 26) (I_ e)).setCell (a_ g 24) n_):=by
 have hg1:=gs_ W g 26 (I_ e);have m1:=k.m.set 26 (I_ e) E rfl (D:={ F with err:=e }) (fault':=e) rfl;have hg2:=gs_ (W.setCell (a_ g 26) (I_ e)) g 24 n_;refine⟨{ F with err:=e },T,vt,n_,⟨.step hr hm,zG he⟩,ht,rfl,dM (dM k.own k.m.fA (by decide) hg1) m1.fA (by decide) hg2,⟨m1.set 24 _ E rfl rfl,?_,gd,hst⟩,Lib.grownBy_trans (Lib.grownBy_trans k.gr hg1) hg2⟩;have e':ng E { F with err:=e }=⟨#[]⟩:=by unfold ng;exact if_pos he
 rw [e'];exact .inl ⟨rfl,rfl⟩
theorem Bz (f:Nat->Int) (g:Nat) (E:bH) (ve vr vc vh:V_) (C:bI) (w:W_) (gd:Pu.Good E f) (h:wD E f C) (he:C.err=0) (hs:E.s.size<=1099511627776) (m:jW w g E ve vr vc vh C 0) :
  C_ 104 #[p_ g,.string (E.s.extract C.pos.toNat E.s.size)] w (Dq f g E ve vr vc C w):=by
 obtain⟨⟨ge,ce,rfl,he1,he2⟩,⟨gr,cr,rfl,hr1,hr2⟩,-⟩:=m.l.aaf gd.right;obtain⟨aS,hi,hz0,hz1,hz2⟩:=ip_ Tryz.info74;have GD:=bK gd
 have H0:Hid (Xg f g E _ _ vc vh C w C [] (s_ w.heap.size 0 0) (w.alloc (c_ #[] 74))):=⟨.refl _,h,he,by simp,World.ownsRow_made w #[] 0 di (zl_ _) rfl,m.alloc _,oZ ⟨rfl,rfl,rfl,di,fun _ _ _=>rfl⟩ _⟩
 have glt:=bO m.fA;have HS:=bK hs;clear h he m gd hs;go_enter Tryz.func104,Tryz.ntmps104
 go_wp2_with fail
 go_loopg [1,6] (E.s.size-C.pos.toNat) (fun gk rs tv wr=>∃(D:bI) (T:List bJ) (vt:V_),rs=.string (E.s.extract D.pos.toNat E.s.size)/\vt=tv/\gk=E.s.size-D.pos.toNat/\Xg f g E (s_ ge E.p.ents.length ce) (s_ gr E.p.rules.length cr) vc vh C w D T vt wr)
 case atStart=>exact⟨C,[],_,rfl,rfl,rfl,H0.o⟩
 case round=>
  clear H0;obtain⟨D,T,vt,rfl,rfl,rfl,hI⟩:=hrel;have HI:=bK hI;have hp0:=hI.sta.pos;have hwi:=hI.sta.within;have hlk:=hI.sta.looked;have hpd:D.pos<=E.s.size:=by omega
  have hrs:(E.s.extract D.pos.toNat E.s.size).size=E.s.size-D.pos.toNat:=by simp
  have hge:=hI.gr.size;have K0:Hid (mq g E (s_ ge E.p.ents.length ce) (s_ gr E.p.rules.length cr) vc vh w T vt D wr):=⟨hI.own,hI.m,hI.gr⟩;clear hI;by_cases hlt:D.pos<E.s.size
  focus
   have d0:(0:Int)<((E.s.extract D.pos.toNat E.s.size).size:Int):=by omega
   have SK:=bK (fun W=>Z9 f g E (s_ ge E.p.ents.length ce) (s_ gr E.p.rules.length cr) vc vh D W GD.o HI.o.sta HI.o.err hlt HS.o);have HRS:Hid ((E.s.extract D.pos.toNat E.s.size).size=E.s.size-D.pos.toNat):=hrs;have BT:Hid (∀n,D.pos.toNat+n<E.s.size->bt (E.s.extract D.pos.toNat E.s.size) n=bt E.s (D.pos.toNat+n)):=fun n hn=>iL E.s D.pos.toNat E.s.size n di hn
   have hRS:Hid (E.s.extract D.pos.toNat E.s.size=E.s.extract D.pos.toNat E.s.size):=rfl;clear hrs hRS
  rotate_left
  focus
   have hpe:D.pos=E.s.size:=by omega
   have d0:((E.s.extract D.pos.toNat E.s.size).size:Int)=0:=by omega
   have FIN:=bK (And.intro (show Pu.Runs E C D from ⟨HI.o.r,by unfold AY;rw [if_pos (.inr (by omega))]⟩) (And.intro HI.o.sta (And.intro HI.o.err HI.o.dV)));obtain⟨cap,w2,hcv,hB2,hby⟩:=DY wr (E.s.extract D.pos.toNat E.s.size) (by omega);have m2:=K0.o.m.below hB2;have c24:=m2.cell (j:=24) rfl;have f24:=m2.frozen 24;have HB:=bK (And.intro hB2 hby);clear hB2 hby m2
  rotate_left
  all_goals
   generalize hRE:E.s.extract D.pos.toNat E.s.size=rest at *;have RE:=bK hRE
  .clear hRE
   go_wp2_with fail
   refine (SK.o _ K0.o.m).mono ?_
   clear SK;rintro e w1 ⟨F,hr1,Xa,YN,hg1,(⟨rfl,rO,hm1⟩ | ⟨F',er,rfl,rO,hm1⟩)⟩
   .have K1:=bK (K0.o.on hg1 hm1);have hst:=hr1.inv GD.o HI.o.sta;have FIN:=bK (And.intro (show Pu.Runs E C F from ⟨HI.o.r.trans hr1,by unfold AY;rw [rO];split <;> rfl⟩) (And.intro hst (And.intro Xa (And.intro (((hr1.quiet GD.o HI.o.sta).2 YN Xa).trans HI.o.dV) (show E.s.extract F.pos.toNat E.s.size=rest by rw [YN];exact RE.o)))));obtain⟨cap,w2,hcv,hB2,hby⟩:=DY w1 rest (by have:=HRS.o;have:=HS.o;omega);have m2:=K1.o.m.below hB2;have c24:=m2.cell (j:=24) rfl;have f24:=m2.frozen 24;have HB:=bK (And.intro hB2 hby);clear hr1 Xa YN hg1 rO hm1 hst hB2 hby m2 K0 BT;go_wp2
    go_ret2
    exact Ld GD.o K1.o HB.o.1 HB.o.2 FIN.o.1 FIN.o.2.1 FIN.o.2.2.1 FIN.o.2.2.2.1 FIN.o.2.2.2.2
   .have aey:=hr1.inv GD.o HI.o.sta;have q:=rf GD.o aey Xa rO;have K1:=bK (K0.o.on hg1 hm1);have aev:AY E F=some (Pu.take E F' er):=by unfold AY;rw [if_neg (by omega),rO]
    have htk:F'.dV=C.dV++T:=q.2.2.2.2.2.trans (((hr1.quiet GD.o HI.o.sta).2 YN Xa).trans HI.o.dV);have HQ:=bK (And.intro q (And.intro (HI.o.r.trans hr1) (And.intro aev htk)));have FP:Hid (F'.pos=D.pos):=q.2.1.trans YN;have c24:=K1.o.m.cell (j:=24) rfl;have f24:=K1.o.m.frozen 24;have c26:=K1.o.m.cell (j:=26) rfl;have f26:=K1.o.m.frozen 26;rcases q.2.2.2.1 with h0 | h5
    .subst h0;have hru:=q.1.rule;have JU:=bK (fun W m=>Vh g E (s_ ge E.p.ents.length ce) (s_ gr E.p.rules.length cr) vc vh F' 0 W m GD.o.right hru);have HW:=bK (Ot E.p E.depth F');clear q hr1 Xa rO hm1 aey aev htk K0 hg1 YN
     go_wp2_with fail
     refine (JU.o _ K1.o.m).mono ?_
     clear JU;rintro e w2 ⟨rfl,nd,rfl⟩;have K2:=bK (K1.o.drewN nd);clear K1;by_cases hw:Pu.wrong E.p E.depth F'=0
     .rw [hw];have hmk:=HQ.o.1.1.marked;have hlk2:=HQ.o.1.1.looked;have akc:=HQ.o.1.1.within
      have hmp:1<=F'.marked:=by
       by_cases e0:F'.marked=0
       .unfold Pu.wrong at hw;rw [if_pos e0] at hw;cases hw
       .omega
      obtain⟨n,hn⟩:=Int.eq_ofNat_of_zero_le hmk.1;obtain⟨k,hk⟩:=Int.eq_ofNat_of_zero_le hru.1;have hkr:k<E.p.rules.length:=by omega
      have hki:(k:Int)<E.p.rules.length:=by omega
      have hnr:n<=rest.size:=by have:=HRS.o;have:=FP.o;omega
      have hni:(n:Int)<=rest.size:=by omega
      have hn1:1<=n:=by omega
      have TO:=bK (fun W m=>Ww g E (s_ ge E.p.ents.length ce) (s_ gr E.p.rules.length cr) vc vh F' 0 W m);rw [hn,hk] at TO;have HN:=bK (And.intro hn (And.intro hk hw))
      have w1':Hid ((Pu.rg E.p.rules k).act=2->F'.iW<E.depth):=fun ha=>by
       have hw1:=hw;unfold Pu.wrong at hw1;rw [if_neg (by omega),hk,tn_] at hw1;by_cases q2:E.depth<=F'.iW
       .rw [if_pos ⟨ha,q2⟩] at hw1;cases hw1
       .omega
      have w2':Hid ((Pu.rg E.p.rules k).act=3->0<F'.iW):=fun ha=>by
       have hw1:=hw;unfold Pu.wrong at hw1;rw [if_neg (by omega),hk,tn_,if_neg (by omega)] at hw1;have:=HQ.o.1.1.iW;by_cases q2:F'.iW=0
       .rw [if_pos ⟨ha,q2⟩] at hw1;cases hw1
       .omega
      clear hw hmk hlk2 akc hmp hn hk hru HW c24 f24 c26 f26
      go_wp2_with fail
      refine (TO.o _ K2.o.m).mono ?_
      clear TO;rintro e w3 ⟨rfl,hB3⟩;have K3:=bK (K2.o.below hB3);clear K2 hB3;have hvt:Hid (∀j,vt.ownBlock=some j->j<w3.heap.size):=fun j hj=>(ol_ K3.o.own j hj).2
      have K4:=bK (K3.o.alloc (c_ #[I_ k,I_ F'.pos,I_ n,I_ F'.line,I_ F'.iH] 74));have KT:Hid (dh (w3.alloc (c_ #[I_ k,I_ F'.pos,I_ n,I_ F'.line,I_ F'.iH] 74)) w3.heap.size 74 [I_ k,I_ F'.pos,I_ n,I_ F'.line,I_ F'.iH]):=hn_ _ _;clear K3
      go_wp2_with fail
      generalize w3.alloc (c_ #[I_ k,I_ F'.pos,I_ n,I_ F'.line,I_ F'.iH] 74)=W4 at *;generalize w3.heap.size=gt at *;have c1:=K4.o.m.cell (j:=1) rfl;have t0:=bP 0 KT.o rfl;have q:=Nq K4.o.m.l.r hkr;have aW:=q.1;have q1:=q.2.1;have q2:=q.2.2;have ajT:=bO K4.o.m.fA;have akS:=bO KT.o;have akF:=(lI K4.o.m.l.r).2;have n1:W4.heap.size≠g:=by omega
      have n2:W4.heap.size≠gt:=by omega
      have n3:W4.heap.size≠gr:=by omega
      have n1':g≠W4.heap.size:=by omega
      have n2':gt≠W4.heap.size:=by omega
      have n3':gr≠W4.heap.size:=by omega
      have ok:=GD.o.right.2.1.2 k hkr;have ogt:Hid (gt≠g):=fun e=>by have b1:=KT.o;have b2:=K4.o.m.fA;rw [e] at b1;unfold dh at b1 b2;rw [b1] at b2;simp at b2
      clear q;have RX:Hid (Pu.rg E.p.rules k=Pu.rg E.p.rules k):=rfl;clear RX;generalize hR:Pu.rg E.p.rules k=r at *;have HR:=bK hR;clear hR
      go_region_held3 (fun w'=>w'.cell? (a_ g 1)=some (s_ gr E.p.rules.length cr)/\w'.cell? (a_ gt 0)=some (I_ k)/\w'.cell? (a_ gr (k*3))=some (I_ r.emit)/\w'.cell? (a_ gr (k*3+1))=some (I_ r.act)/\w'.cell? (a_ gr (k*3+2))=some (I_ r.mode)) (go_keep) (fail)
      rename_i hh
      clear hh c1 t0 aW q1 q2 n1 n2 n3 n1' n2' n3' akF hr1 hr2 he1 he2;have K5:=bK (K4.o.alloc (c_ #[I_ r.emit,I_ r.act,I_ r.mode] 59)).drew;have KR:Hid (dh (W4.alloc (c_ #[I_ r.emit,I_ r.act,I_ r.mode] 59)).drew W4.heap.size 59 [I_ r.emit,I_ r.act,I_ r.mode]):=hn_ _ _;have WS:Hid (dh (W4.alloc (c_ #[I_ r.emit,I_ r.act,I_ r.mode] 59)).drew gt 74 [I_ k,I_ F'.pos,I_ n,I_ F'.line,I_ F'.iH]):=dx KT.o _;have ogr:Hid (W4.heap.size≠g):=by show _≠_;omega
      clear K4 KT ajT akS;generalize (W4.alloc (c_ #[I_ r.emit,I_ r.act,I_ r.mode] 59)).drew=W5 at *;generalize W4.heap.size=gl at *;have e0:=bP 0 KR.o rfl;rcases ok.1 with hem | hem
      focus
       rw [hem] at e0;have HEM:=bK hem;clear hem;have t2:=bP 2 WS.o rfl
      rotate_left
      focus
       rw [hem] at e0;have HEM:=bK hem;clear hem;have hTl:(T.length:Int)<=E.s.size:=by have h1:=HI.o.sta.dV;have h2:=HI.o.dV;rw [h2,la_] at h1;omega
       have hTl2:T.length<=1099511627776:=by have:=HS.o;omega
       have u0:=bP 0 WS.o rfl;have u1:=bP 1 WS.o rfl;have u2:=bP 2 WS.o rfl;have u3:=bP 3 WS.o rfl;have u4':=bP 4 WS.o rfl;have tlt:=bO WS.o
       go_wp2_with (at_builtin;refine wo_ _ rfl (.tmp 56) (.tmp 58) 72 rfl w.heap.size 74 aS (.agg #[I_ 0,I_ 0,I_ 0,I_ 0,I_ 0]) 5 40 Tryz.underlying72 hi hz0 hz1 hz2 rfl (by decide) vt T.length (eB T) rfl (oa_ K5.o.own _) (a_ W5.heap.size 0) 1 1 [I_ k,I_ F'.pos,I_ n,I_ F'.line,I_ F'.iH] rfl rfl (jw rfl) (by intro u hu;simp at hu;rcases hu with rfl | rfl | rfl | rfl | rfl <;> rfl) (by unfold maxLen;omega) (by omega) (by have:=K5.o.gr.size;simp;omega) ?_;intro v2 wa dw bS _;have t2:=bM (j:=2) (bQ (dx WS.o _) bS (fun e=>by have:=hvt.o _ e.symm;omega)) rfl)
       have Ka:Hid (mq g E (s_ ge E.p.ents.length ce) (s_ gr E.p.rules.length cr) vc vh w (T++[⟨k,F'.pos,n,F'.line,F'.iH⟩]) v2 F' wa):=(K5.o.alloc _).more bS (by rw [ug,la_,List.length_singleton];exact dw);have KRa:=bK (fK (K5.o.alloc _).own (dx KR.o _) (by decide) bS);have KTa:=bK (bQ (dx WS.o _) bS (fun e=>by have:=hvt.o _ e.symm;omega));clear dw bS u0 u1 u2 u3 u4' K5 KR WS
      rotate_left
      all_goals
       have PS:=bK (fun W m=>ZQ g E (s_ ge E.p.ents.length ce) (s_ gr E.p.rules.length cr) vc vh F' 0 (rest.extract 0 n) W m (by have:=FP.o;have:=HS.o;omega) (by have:=HQ.o.1.1.line;have:=FP.o;have:=HS.o;omega) (by have:=HQ.o.1.1.iH;have:=FP.o;have:=HS.o;omega) (by have:=HS.o;have:=HRS.o;simp;omega))
      focus
       go_wp2_with fail
       refine (PS.o _ K5.o.m).mono ?_
       clear PS t2;rintro e w6 ⟨rfl,hm6,rM⟩;have K6:=bK (K5.o.on rM hm6);have KR6:=bK (bQ KR.o rM (fun e=>ogr.o (by cases e;rfl)));have KT6:=bK (bQ WS.o rM (fun e=>ogt.o (by cases e;rfl)));clear K5 KR WS hm6 rM
      rotate_left
      focus
       refine (PS.o _ Ka.o.m).mono ?_
       clear PS t2;rintro e w6 ⟨rfl,hm6,rM⟩;have K6:=bK (Ka.o.on rM hm6);have KR6:=bK (bQ KRa.o rM (fun e=>ogr.o (by cases e;rfl)));have KT6:=bK (bQ KTa.o rM (fun e=>ogt.o (by cases e;rfl)));clear Ka KRa KTa hm6 rM
      rotate_left
      all_goals
       have e0:=bP 0 KR6.o rfl;have e1:=bP 1 KR6.o rfl;have e2:=bP 2 KR6.o rfl;have AC:=bK (fun W m=>abp g E (s_ ge E.p.ents.length ce) (s_ gr E.p.rules.length cr) vc vh (rX (rest.extract 0 n) (rest.extract 0 n).size F') 0 r W m HQ.o.1.1.kK.1 (by have:=HQ.o.1.1.iW;have:=GD.o.depth;show 0<=F'.iW/\F'.iW<=8;omega) (fun ha=>by have:=w1'.o ha;have:=GD.o.depth;show F'.iW<8;omega) (fun ha=>w2'.o ha))
       go_wp2_with fail
       refine (AC.o _ K6.o.m).mono ?_
       clear AC e0 e1 e2;rintro e w7 ⟨rfl,hm7,hg7⟩;have K7:=bK (K6.o.on hg7 hm7);have KT7:=bK (bQ KT6.o hg7 (fun e=>ogt.o (by cases e;rfl)));clear K6 KR6 KT6 hm7 hg7;have md:0<=fO r F'/\fO r F'<E.p.ents.length:=by have z:=(sH GD.o HQ.o.1.1 HN.o.2.2).1.mode;have e5:(Pu.took E.p E.s F').mode=fO (Pu.rg E.p.rules F'.rule.toNat) F':=rfl;rw [e5,HN.o.2.1,tn_,HR.o] at z;exact z
       obtain⟨mm,hmm⟩:=Int.eq_ofNat_of_zero_le md.1;have MM:=bK hmm;have c0:=K7.o.m.cell (j:=0) rfl;have c8:=K7.o.m.cell (j:=8) (u:=I_ mm) (by rw [<-hmm];rfl);have c19:=K7.o.m.cell (j:=19) rfl;have c20:=K7.o.m.cell (j:=20) rfl;have c21:=K7.o.m.cell (j:=21) rfl;have c22:=K7.o.m.cell (j:=22) rfl;have c23:=K7.o.m.cell (j:=23) rfl;have f19:=K7.o.m.frozen 19;have f20:=K7.o.m.frozen 20;have f21:=K7.o.m.frozen 21;have f22:=K7.o.m.frozen 22;have f23:=K7.o.m.frozen 23;have hml:mm<E.p.ents.length:=by omega
       have hmi:(mm:Int)<E.p.ents.length:=by omega
       have qe:=JF K7.o.m.l.e hml;have yV:=Tx K7.o.m.l.e K7.o.m.fA (by decide);have far':g≠ge:=fun e=>yV e.symm
       have K8:=bK (K7.o.again (Pu.aU E.p.ents mm));have T1:Hid (_/\_/\_):=And.intro (K8.o.drew.m.cell (j:=0) rfl) (And.intro (K8.o.drew.m.cell (j:=8) (u:=I_ mm) (by rw [<-hmm];rfl)) (JF K8.o.drew.m.l.e hml));have t2:=bP 2 KT7.o rfl;have ahr:=ogt.o;have ahs:g≠gt:=fun e=>ahr e.symm
       have hb:(rest.extract 0 n).size=n:=by simp;omega
       have RS2:Hid (rest.extract n rest.size=E.s.extract (F'.pos+n).toNat E.s.size):=by
        show _=_;have h1:=HRS.o;have h2:=FP.o;rw [h1,<-RE.o];apply ByteArray.ext;simp;congr 1
        all_goals omega
       have TOOK:Hid (kG (s_ ge E.p.ents.length ce) (s_ gr E.p.rules.length cr) vc vh E.most E.depth { wF r (rX (rest.extract 0 n) (rest.extract 0 n).size F') with ins:=Pu.aU E.p.ents mm,c:=0,looked:=0,rule:=0,marked:=0 } E.ended 0=kG (s_ ge E.p.ents.length ce) (s_ gr E.p.rules.length cr) vc vh E.most E.depth (Pu.took E.p E.s F') E.ended 0):=by
        show _=_
        have ha:qf (rest.extract 0 n) 0 n (F'.line,F'.iH)=qf E.s F'.pos.toNat n (F'.line,F'.iH):=XX n (fun i hi=>by
         have h1:=HRS.o;have h2:=FP.o
         rw [iL rest 0 n i (by omega) (by omega),Nat.zero_add,BT.o i (by omega),h2])
        unfold Pu.took rX wF;simp only;rw [hb,ha,HN.o.1,HN.o.2.1,tn_,tn_,HR.o];have e6:fO r F'=mm:=hmm;have e7:(fO r F').toNat=mm:=by rw [e6];rfl
        unfold kG;simp only [e7];rfl
       have KT8:=bK (bQ KT7.o (rJ (eU (eU (eU (eU (eU (World.grownBy.refl w7 (some g)) 19 (I_ (Pu.aU E.p.ents mm))) 20 (I_ 0)) 21 (I_ 0)) 22 (I_ 0)) 23 (I_ 0))) (fun e=>ogt.o (by cases e;rfl)));have K9:=bK K8.o.drew;clear md hmm yV hb K8
       go_wp2_with fail
       generalize hEN:Pu.aU E.p.ents mm=en at *
       go_region_held3 (fun w'=>w'.cell? (a_ g 0)=some (s_ ge E.p.ents.length ce)/\w'.cell? (a_ g 8)=some (I_ mm)/\w'.cell? (a_ ge mm)=some (I_ en)) (first | (go_keep;done) | exact T1.o) (fail)
       rename_i hh
       clear hh T1 c0 c8 c19 c20 c21 c22 c23 f19 f20 f21 f22 f23 qe far' t2 ahr ahs K7 KT7 hEN;generalize (((((w7.setCell (a_ g 19) (I_ en)).setCell (a_ g 20) (I_ 0)).setCell (a_ g 21) (I_ 0)).setCell (a_ g 22) (I_ 0)).setCell (a_ g 23) (I_ 0)).drew=W8 at *;have t2:=bP 2 KT8.o rfl;go_wp2
      .go_roundg (E.s.size-(F'.pos+n).toNat)
       case measure=>have:=FP.o;omega
       case rel=>
        have TK:Pu.take E F' 0=Pu.took E.p E.s F':=by unfold Pu.take;rw [if_neg (by omega),if_neg (by have:=HN.o.2.2;omega)]
        have ep:(Pu.took E.p E.s F').pos=F'.pos+n:=by show F'.pos+F'.marked=_;rw [HN.o.1]
        have ti:=sH GD.o HQ.o.1.1 HN.o.2.2;refine⟨Pu.took E.p E.s F',T,_,by rw [ep];exact congrArg Value.string RS2.o,rfl,by rw [ep],.step HQ.o.2.1 (by rw [HQ.o.2.2.1,TK]),ti.1,ti.2.1,?_,K9.o.own,K9.o.m.MN TOOK.o,K9.o.gr⟩;show (if (Pu.rg E.p.rules F'.rule.toNat).emit=1 then F'.dV++[⟨F'.rule,F'.pos,F'.marked,F'.line,F'.iH⟩] else F'.dV)=_;rw [HN.o.2.1,tn_,HR.o,HEM.o,HN.o.1,HQ.o.2.2.2];simp
      .go_roundg (E.s.size-(F'.pos+n).toNat)
       case measure=>have:=FP.o;omega
       case rel=>
        have TK:Pu.take E F' 0=Pu.took E.p E.s F':=by unfold Pu.take;rw [if_neg (by omega),if_neg (by have:=HN.o.2.2;omega)]
        have ep:(Pu.took E.p E.s F').pos=F'.pos+n:=by show F'.pos+F'.marked=_;rw [HN.o.1]
        have ti:=sH GD.o HQ.o.1.1 HN.o.2.2;refine⟨Pu.took E.p E.s F',(T++[⟨k,F'.pos,n,F'.line,F'.iH⟩]),_,by rw [ep];exact congrArg Value.string RS2.o,rfl,by rw [ep],.step HQ.o.2.1 (by rw [HQ.o.2.2.1,TK]),ti.1,ti.2.1,?_,K9.o.own,K9.o.m.MN TOOK.o,K9.o.gr⟩;show (if (Pu.rg E.p.rules F'.rule.toNat).emit=1 then F'.dV++[⟨F'.rule,F'.pos,F'.marked,F'.line,F'.iH⟩] else F'.dV)=_;rw [HN.o.2.1,tn_,HR.o,HEM.o,HN.o.1,HQ.o.2.2.2];simp
     .have hw':(Pu.wrong E.p E.depth F' != 0)=true:=by simpa using hw
      have TK:Hid (Pu.take E F' 0={ F' with err:=Pu.wrong E.p E.depth F' }):=by show _=_;unfold Pu.take;rw [if_neg (by omega),if_pos hw]
      have ST:=bK (HQ.o.1.1.TU (f:=f) (e:=Pu.wrong E.p E.depth F') (by have:=HW.o;omega));generalize Pu.wrong E.p E.depth F'=er at *;go_wp2
      go_ret2
      exact Hm GD.o K2.o er hw HQ.o.2.1 (by rw [HQ.o.2.2.1,TK.o]) ST.o HQ.o.2.2.2
    .subst h5;have TK:Hid (Pu.take E F' 5={ F' with err:=5 }):=by show _=_;unfold Pu.take;rw [if_pos (by omega)]
     have ST:=bK (HQ.o.1.1.TU (f:=f) (e:=5) (by omega));clear q hr1 Xa rO hm1 aey aev htk K0 hg1 YN;go_wp2
     go_ret2
     exact Hm GD.o K1.o 5 (by omega) HQ.o.2.1 (by rw [HQ.o.2.2.1,TK.o]) ST.o HQ.o.2.2.2
  .clear hRE hpe hrs;have d1:=mM (0:Int) (rest.size:Int);have d2:decide (0<rest.size)=false:=dn_ (by omega);have d3:¬(0<rest.size):=by omega
   clear d0;go_wp2
   go_ret2
   exact Ld GD.o K0.o HB.o.1 HB.o.2 FIN.o.1 FIN.o.2.1 FIN.o.2.2.1 FIN.o.2.2.2 RE.o
def fe:Y_:=⟨#[]⟩
def Sc (w:W_) (g:Nat) (E:bH) (D:bI):Prop:=∃f ve vr vc vh b,(D.err=0->b=E.ended)/\Scn w g { E with ended:=b } D f ve vr vc vh
theorem jW.env {E':bH} (m:jW w g E ve vr vc vh C fault) (h1:E'.p=E.p) (h2:E'.most=E.most) (h3:E'.depth=E.depth) (h4:E'.ended=E.ended):jW w g E' ve vr vc vh C fault:=
 ⟨by rw [h2,h3,h4];exact m.fA,by rw [h1];exact m.l⟩
theorem Jj (u:Y_) (a b:Nat):(u.extract a b).data.toList=(u.data.toList.drop a).take (b-a):=by simp
theorem Il (s t:Y_) (a:Nat) (h:a<=s.size):s.extract a s.size++t=(s++t).extract a (s++t).size:=by
 apply ByteArray.ext;apply Array.toList_inj.1;have hl:s.data.toList.length=s.size:=by simp
 have ht:t.data.toList.length=t.size:=by simp
 have e1:(s++t).size=s.size+t.size:=by simp
 have e2:(s++t).data.toList=s.data.toList++t.data.toList:=by simp
 have e3:(s.extract a s.size++t).data.toList=(s.data.toList.drop a).take (s.size-a)++t.data.toList:=by simp
 have e4:((s++t).extract a (s++t).size).data.toList=((s++t).data.toList.drop a).take ((s++t).size-a):=Jj _ _ _;rw [e3,e4,e2,e1,List.drop_append_of_le_length (by omega),List.take_of_length_le (by rw [List.length_drop];omega),List.take_of_length_le (by rw [la_,List.length_drop];omega)]
theorem Lg (w:W_) (v:V_) (s:Y_) (h:lV w v s):(convert 152 9 v).run Tryz.prog w=.ok (.string s) w:=by
 rcases h with ⟨h0,rfl⟩ | ⟨b,cap,cs,fr,rfl,h2,h2',h3,h4⟩
 .have:s=⟨#[]⟩:=by apply ByteArray.ext;exact Array.eq_empty_of_size_eq_zero h0
  subst this;rw [run_convert_bytes_string w 152 9 5 none 0 0 Tryz.underlying152 Tryz.underlying5 Tryz.underlying9]
  first | rfl | simp [Conv.bytesToString]
 .have hl:s.data.toList.length=s.size:=by simp
  have:=run_convert_bytes_back (P:=Tryz.prog) w 152 9 5 (a_ b 0) cap s.data.toList Tryz.underlying152 Tryz.underlying5 Tryz.underlying9 (fun j hj=>by
   have h5:=h4 j (by omega);have h6:w.cell? (a_ b j)=cs[j]?:=by simp [World.cell?,h3]
   have h7:bt s j=((s.data.toList[j]).toNat:Int):=by unfold bt;rw [gd_,gg_ hj];rfl
   rw [add_eq,Nat.zero_add,h6,h5,h7])
  rw [hl] at this;simpa using this
def zh (code:Int) (w:W_) (e:Ending) (w':W_):Prop:=e=.returned (.tuple #[n_,I_ code])/\w'=w
theorem JR (g:Nat) (E:bH) (C:bI) (eZ:Y_) (w:W_) (h:Sc w g E C) (hE:E.ended=true) :
  C_ 72 #[p_ g,.string eZ] w (zh (shut true C.err) w):=by
 obtain⟨f,ve,vr,vc,vh,b,hb,hS⟩:=h;have HC:=bK (uQ g _ ve vr vc vh C C.err w hS.m)
 have e0:shut b C.err=shut true C.err:=by
  by_cases he:C.err=0
  .rw [hb he,hE]
  .simp [shut,he]
 have e1:(shut true C.err != 0)=true:=by
  unfold shut;by_cases he:C.err=0
  .simp [he]
  .simp [he]
 rw [show ({ E with ended:=b }:bH).ended=b from rfl,e0] at HC;clear hS hb e0;generalize shut true C.err=z at *;go_enter Tryz.func72,Tryz.ntmps72
 go_wp2_with fail
 refine HC.o.mono ?_
 rintro e w1 ⟨rfl,rfl⟩;clear HC;go_wp2
 go_ret2
 exact⟨rfl,rfl⟩
theorem Fu (g:Nat) (E:bH) (C:bI) (w:W_) (h:Sc w g E C) (hE:E.ended=true) :
  C_ 74 #[p_ g] w (zh (shut true C.err) w):=by
 obtain⟨f,ve,vr,vc,vh,b,hb,hS⟩:=h;have HC:=bK (uQ g _ ve vr vc vh C C.err w hS.m)
 have e0:shut b C.err=shut true C.err:=by
  by_cases he:C.err=0
  .rw [hb he,hE]
  .simp [shut,he]
 have e1:(shut true C.err != 0)=true:=by
  unfold shut;by_cases he:C.err=0
  .simp [he]
  .simp [he]
 rw [show ({ E with ended:=b }:bH).ended=b from rfl,e0] at HC;clear hS hb e0;generalize shut true C.err=z at *;go_enter Tryz.func74,Tryz.ntmps74
 go_wp2_with fail
 refine HC.o.mono ?_
 rintro e w1 ⟨rfl,rfl⟩;clear HC;go_wp2
 go_ret2
 exact⟨rfl,rfl⟩
theorem UL (g:Nat) (E:bH) (C:bI) (eZ:Y_) (w:W_) (h:Sc w g E C) (hE:E.ended=true) :
  C_ 37 #[p_ g,.string eZ] w (zh (shut true C.err) w):=by
 have H:=bK (JR g E C eZ w h hE);clear h hE;go_enter Tryz.func37,Tryz.ntmps37
 go_wp2_with fail
 refine H.o.mono ?_
 rintro e w2 ⟨rfl,rfl⟩;go_wp2
 go_ret2
 exact⟨rfl,rfl⟩
theorem LQ (g:Nat) (E:bH) (C:bI) (w:W_) (h:Sc w g E C) (hE:E.ended=true) :
  C_ 39 #[p_ g] w (zh (shut true C.err) w):=by
 have H:=bK (Fu g E C w h hE);clear h hE;go_enter Tryz.func39,Tryz.ntmps39
 go_wp2_with fail
 refine H.o.mono ?_
 rintro e w2 ⟨rfl,rfl⟩;go_wp2
 go_ret2
 exact⟨rfl,rfl⟩
def aak (E:bH) (C:bI):V_:=.agg #[I_ C.pos,I_ C.line,I_ C.iH,I_ C.mode,I_ C.iW,I_ (ng E C).size,I_ C.steps]
theorem NR (g:Nat) (E:bH) (C:bI) (w:W_) (h:Sc w g E C) :
  C_ 52 #[p_ g] w (Du (aak E C) w):=by
 obtain⟨f,ve,vr,vc,vh,b,hb,hS⟩:=h;obtain⟨ah,ch,rfl,h1,h2⟩:=hS.h.form;exact Ws g _ ve vr vc ah _ ch C C.err w hS.m (by have h1':(ng E C).size<=ch:=h1;show (ng E C).size<=_;omega)
theorem Sc.below {w w':W_} {g:Nat} {E:bH} {C:bI} (h:Sc w g E C) (hb:B_ w w'):Sc w' g E C:=by obtain⟨f,ve,vr,vc,vh,b,hb',hS⟩:=h;exact⟨f,ve,vr,vc,vh,b,hb',hS.m.below hb,hS.h.below hb,hS.good,hS.sta⟩
theorem Sc.lt (h:Sc w g E C):g<w.heap.size:=by obtain⟨f,ve,vr,vc,vh,b,hb',hS⟩:=h;exact bO hS.m.fA
def rD (p:oC):bI:=⟨0,1,1,0,List.replicate 8 0,0,0,Pu.aU p.ents 0,0,0,0,0,[],0⟩
def xV (p:oC) (most depth:Int):bH:=⟨p,most,depth,fe,false⟩
theorem adn {p:oC} {most:Int} (hp:iy p) (hm:1<=most/\most<=64) (hd:0<=depth/\depth<=8):∃f,Pu.Good (xV p most depth) f:=by obtain⟨f,h0,h1⟩:=aeT hp.2.2.2 hp.2.2.1.tight;exact⟨f,hp,hm,hd,h0,h1⟩
theorem ahF {p:oC} {most:Int} (g:Pu.Good (xV p most depth) f):wD (xV p most depth) f (rD p):=by
 have hp:iy p:=g.right;have hm:1<=most/\most<=64:=g.most;have hd:0<=depth/\depth<=8:=g.depth;have e:=hp.1.1;have en:=hp.1.2 0 (by omega);have r:=hp.2.1.1;have f0:0<=f (Pu.aU p.ents 0).toNat/\f (Pu.aU p.ents 0).toNat<p.code.length:=g.f0 (Pu.aU p.ents 0).toNat (by show (Pu.aU p.ents 0).toNat<p.code.length;omega);have z1:((0:Int)+1)*(p.code.length:Int)=p.code.length:=by rw [Int.zero_add,Int.one_mul]
 have z0:(0:Int)*Pu.vv (xV p most depth)=0:=Int.zero_mul _;have hc:=hp.2.2.1.1;refine⟨Int.le_refl _,⟨Int.le_refl _,by show (0:Int)<=most;omega⟩,by show (0:Int)+0<=(0:Nat);omega,⟨Int.le_refl _,Int.le_refl _⟩,⟨en.1,by show Pu.aU p.ents 0<=p.code.length;omega⟩,⟨Int.le_refl _,by show (0:Int)<=255;omega⟩,⟨Int.le_refl _,by show (0:Int)<p.rules.length;omega⟩,⟨Int.le_refl _,by show (0:Int)<p.ents.length;omega⟩,⟨rfl,fun i hi=>?_⟩,⟨Int.le_refl _,hd.1⟩,⟨Int.le_refl _,by show (1:Int)<=0+1;omega⟩,⟨Int.le_refl _,by show (1:Int)<=0+1;omega⟩,⟨Int.le_refl _,?_⟩,fun _=>⟨en.2,?_⟩,⟨Int.le_refl _,by show (0:Int)<=7;omega⟩,Int.le_refl _⟩
 .have:Pu.aU (List.replicate 8 0) i=0:=by
   match i,hi with
   | 0,_=>rfl
   | 1,_=>rfl
   | 2,_=>rfl
   | 3,_=>rfl
   | 4,_=>rfl
   | 5,_=>rfl
   | 6,_=>rfl
   | 7,_=>rfl
  show 0<=Pu.aU (List.replicate 8 0) i/\Pu.aU (List.replicate 8 0) i<p.ents.length;rw [this];omega
 .show (0:Int)<=0*Pu.vv (xV p most depth)+(0+1)*p.code.length;omega
 .show (0:Int)+f (Pu.aU p.ents 0).toNat+1<=0*Pu.vv (xV p most depth)+(0+1)*p.code.length;omega
def beginC (ve vr vc:V_) (most depth x:Int):Array V_:=
 #[ve,vr,vc,I_ most,I_ depth,I_ 0,I_ 1,I_ 1,I_ 0,I_ 0,I_ 0,I_ 0,I_ 0,I_ 0,I_ 0,I_ 0,I_ 0,I_ 0,I_ 0,
  I_ x,I_ 0,I_ 0,I_ 0,I_ 0,n_,.bool false,I_ 0]
theorem beginC_ok (ae:Option Addr) (ne ce:Nat) (ar:Option Addr) (nr cr:Nat) (ac:Option Addr) (nc cc:Nat) (most depth x:Int):(beginC (.slice ae ne ce) (.slice ar nr cr) (.slice ac nc cc) most depth x).all (·.oneCell')=true:=by kernel_rfl
theorem step_store_row {P:Program} {o:Oper} {a:Act} {K:Act->W_->Prop} {Q:Exit->Act->W_->Prop} {E:Prop} (hgd:o.guard=none) (ty:TypeId) (x y:Operand) (ho:o.op=.store ty x y)
  (g:Nat) (cells:Array V_) (hx:a.eval x=p_ g) (hy:a.eval y=.agg cells)
  (t:TypeId) (old:Array V_) (hg:w.heap[g]?=some (c_ old t (0,0))) (hi:(P.info? ty).map (·.size)=some cells.size)
  (hold:old.size=cells.size) (h1:cells.all (·.oneCell')=true)
  (h:K (a.put o.dst undef) (w.setRow g cells)):if Region.wanted o (yielded ops a.tmps)=true then Oper.wp P o a w K Q else E:=by
 have hw:Region.wanted o (yielded ops a.tmps)=true:=by simp [Region.wanted,hgd]
 rw [if_pos hw];exact wp_store_row ty x y ho g cells hx hy t old hg hi hold h1 h
theorem QZ {P:Program} {o:Oper} {a:Act} {K:Act->W_->Prop} {Q:Exit->Act->W_->Prop} {E:Prop} (hgd:o.guard=none) (t:TypeId) (parts:Array (Nat × Operand)) (ho:o.op=.build t parts)
  (cells:Array V_) (hc:P.built t (parts.map fun (i,x)=>(i,a.eval x)).toList=some cells)
  (h:K (a.put o.dst (.agg cells)) w):if Region.wanted o (yielded ops a.tmps)=true then Oper.wp P o a w K Q else E:=by
 have hw:Region.wanted o (yielded ops a.tmps)=true:=by simp [Region.wanted,hgd]
 rw [if_pos hw];refine wp_build t parts ho (by rw [hc];rfl) ?_
 rw [hc];exact h
theorem tY {fn:Func} {p:Tmp} {ty:TypeId} (h:fn.results=#[.cell p ty]) (tmps:Array V_) (P:Program) (w:W_) :
  (results fn tmps).run P w=((asAddr (tmps.getD p undef)).run P w).andThen fun a w₁=>(loadVar ty a).run P w₁:=by
 simp only [results,h];simp [Sem.run_bind,Result.andThen]
theorem Tryz.size174 : (Tryz.prog.info? 174).map (·.size)=some 27:=by kernel_rfl
theorem QM (ge ce:Nat) (ar:Option Addr) (nr cr:Nat) (ac:Option Addr) (nc cc:Nat) (p:oC) (most depth:Int) (w:W_) (hE:w.cell? (a_ ge 0)=some (I_ (Pu.aU p.ents 0))) (hn:1<=p.ents.length) (_hc:p.ents.length<=ce) (_hc2:ce<=9223372036854775807) :
  C_ 71 #[.agg #[s_ ge p.ents.length ce,.slice ar nr cr,.slice ac nc cc],I_ most,I_ depth] w (Du (.agg (beginC (s_ ge p.ents.length ce) (.slice ar nr cr) (.slice ac nc cc) most depth (Pu.aU p.ents 0))) w):=by
 have hlt:=World.block_lt_of_cell? w (a_ ge 0) hE;simp only at hlt;have n1:ge≠w.heap.size:=by omega
 have n2:ge≠w.heap.size+1:=by omega
 have n1':w.heap.size≠ge:=by omega
 have n2':w.heap.size+1≠ge:=by omega
 have n3:w.heap.size+1≠w.heap.size:=by omega
 have n3':w.heap.size≠w.heap.size+1:=by omega
 have hi:(0:Int)<p.ents.length:=by omega
 generalize Pu.aU p.ents 0=x at *;generalize p.ents.length=ne at *;have hn0:0<ne:=by omega
 go_enter Tryz.func71,Tryz.ntmps71
 go_wp2_with fail
 have hB:=bK (((Br_ w.heap.size w).alloc di (c_ #[s_ ge ne ce,.slice ar nr cr,.slice ac nc cc] 43)).alloc (by simp) (c_ #[n_,n_,n_,I_ 0,I_ 0,I_ 0,I_ 0,I_ 0,I_ 0,I_ 0,I_ 0,I_ 0,I_ 0,I_ 0,I_ 0,I_ 0,I_ 0,I_ 0,I_ 0,I_ 0,I_ 0,I_ 0,I_ 0,I_ 0,n_,.bool false,I_ 0] 174));have KP:dh ((w.alloc (c_ #[s_ ge ne ce,.slice ar nr cr,.slice ac nc cc] 43)).alloc (c_ #[n_,n_,n_,I_ 0,I_ 0,I_ 0,I_ 0,I_ 0,I_ 0,I_ 0,I_ 0,I_ 0,I_ 0,I_ 0,I_ 0,I_ 0,I_ 0,I_ 0,I_ 0,I_ 0,I_ 0,I_ 0,I_ 0,I_ 0,n_,.bool false,I_ 0] 174)) w.heap.size 43 [s_ ge ne ce,.slice ar nr cr,.slice ac nc cc]:=dx (hn_ _ _) _;have KR:dh ((w.alloc (c_ #[s_ ge ne ce,.slice ar nr cr,.slice ac nc cc] 43)).alloc (c_ #[n_,n_,n_,I_ 0,I_ 0,I_ 0,I_ 0,I_ 0,I_ 0,I_ 0,I_ 0,I_ 0,I_ 0,I_ 0,I_ 0,I_ 0,I_ 0,I_ 0,I_ 0,I_ 0,I_ 0,I_ 0,I_ 0,I_ 0,n_,.bool false,I_ 0] 174)) (w.heap.size+1) 174 [n_,n_,n_,I_ 0,I_ 0,I_ 0,I_ 0,I_ 0,I_ 0,I_ 0,I_ 0,I_ 0,I_ 0,I_ 0,I_ 0,I_ 0,I_ 0,I_ 0,I_ 0,I_ 0,I_ 0,I_ 0,I_ 0,I_ 0,n_,.bool false,I_ 0]:=by have:=hn_ (w.alloc (c_ #[s_ ge ne ce,.slice ar nr cr,.slice ac nc cc] 43)) (c_ #[n_,n_,n_,I_ 0,I_ 0,I_ 0,I_ 0,I_ 0,I_ 0,I_ 0,I_ 0,I_ 0,I_ 0,I_ 0,I_ 0,I_ 0,I_ 0,I_ 0,I_ 0,I_ 0,I_ 0,I_ 0,I_ 0,I_ 0,n_,.bool false,I_ 0] 174);rw [wa_] at this;exact this
 have hE':=(hB.o.cell (p:=(a_ ge 0)) hlt).trans hE;generalize (w.alloc (c_ #[s_ ge ne ce,.slice ar nr cr,.slice ac nc cc] 43)).alloc (c_ #[n_,n_,n_,I_ 0,I_ 0,I_ 0,I_ 0,I_ 0,I_ 0,I_ 0,I_ 0,I_ 0,I_ 0,I_ 0,I_ 0,I_ 0,I_ 0,I_ 0,I_ 0,I_ 0,I_ 0,I_ 0,I_ 0,I_ 0,n_,.bool false,I_ 0] 174)=W0 at *;have p0:=bP 0 KP rfl;have p1:=bP 1 KP rfl;have p2:=bP 2 KP rfl
 have T1:Hid ((W0.drew.setRow (w.heap.size+1) (beginC (s_ ge ne ce) (.slice ar nr cr) (.slice ac nc cc) most depth x)).cell? (a_ w.heap.size 0)=some (s_ ge ne ce)/\(W0.drew.setRow (w.heap.size+1) (beginC (s_ ge ne ce) (.slice ar nr cr) (.slice ac nc cc) most depth x)).cell? (a_ w.heap.size 1)=some (.slice ar nr cr)/\(W0.drew.setRow (w.heap.size+1) (beginC (s_ ge ne ce) (.slice ar nr cr) (.slice ac nc cc) most depth x)).cell? (a_ w.heap.size 2)=some (.slice ac nc cc)/\(W0.drew.setRow (w.heap.size+1) (beginC (s_ ge ne ce) (.slice ar nr cr) (.slice ac nc cc) most depth x)).cell? (a_ ge 0)=some (I_ x)):=
  ⟨(cell_setRow_other _ _ _ _ n3').trans p0,(cell_setRow_other _ _ _ _ n3').trans p1,(cell_setRow_other _ _ _ _ n3').trans p2,(cell_setRow_other _ _ _ _ n2).trans hE'⟩
 have hB2:Hid (B_ w (W0.drew.setRow (w.heap.size+1) (beginC (s_ ge ne ce) (.slice ar nr cr) (.slice ac nc cc) most depth x))):=⟨hB.o.os,hB.o.tape,hB.o.output,by simpa using hB.o.size,fun k hk=>by
  rw [setRow_other _ _ _ _ (by omega)]
  exact hB.o.block k hk⟩
 have KF:Hid ((W0.drew.setRow (w.heap.size+1) (beginC (s_ ge ne ce) (.slice ar nr cr) (.slice ac nc cc) most depth x)).heap[w.heap.size+1]?=some (c_ (beginC (s_ ge ne ce) (.slice ar nr cr) (.slice ac nc cc) most depth x) 174 (0,0))):=setRow_heap W0.drew _ _ _ _ _ KR;clear KP hB hE;refine wd_ (S:=fun w'=>w'.cell? (a_ w.heap.size 0)=some (s_ ge ne ce)/\w'.cell? (a_ w.heap.size 1)=some (.slice ar nr cr)/\w'.cell? (a_ w.heap.size 2)=some (.slice ac nc cc)/\w'.cell? (a_ ge 0)=some (I_ x)) (by kernel_rfl) ⟨p0,p1,p2,hE'⟩ (fun dF=>?_)
 refine wpAnyH_take (i := 0) (oi := { dst := some 7, op := .load 43 (.tmp 3), type := 43, pos := "scan.go:38", after := #[], guard := none }) (v := ?v0) rfl (by kernel_rfl) (by kernel_rfl) (by kernel_rfl) (fun _ _ _ h => h) (Or.inl ⟨by rfl, ?hy0⟩) (by assumption) ?rest0
 case hy0=>(intro w hSw;(try dsimp only at hSw);go_simp;try (with_reducible rfl))
 try simp only [Act.put,sb_,sz_,ss_]
 refine wpAnyH_take (i := 1) (oi := { dst := some 8, op := .move (.tmp 1), type := 3, pos := "scan.go:38", after := #[], guard := none }) (v := ?v1) rfl (by kernel_rfl) (by kernel_rfl) (by kernel_rfl) (fun _ _ _ h => h) (Or.inl ⟨by rfl, ?hy1⟩) (by assumption) ?rest1
 case hy1=>(intro w hSw;(try dsimp only at hSw);go_simp;try (with_reducible rfl))
 try simp only [Act.put,sb_,sz_,ss_]
 refine wpAnyH_take (i := 2) (oi := { dst := some 9, op := .move (.tmp 2), type := 3, pos := "scan.go:38", after := #[], guard := none }) (v := ?v2) rfl (by kernel_rfl) (by kernel_rfl) (by kernel_rfl) (fun _ _ _ h => h) (Or.inl ⟨by rfl, ?hy2⟩) (by assumption) ?rest2
 case hy2=>(intro w hSw;(try dsimp only at hSw);go_simp;try (with_reducible rfl))
 try simp only [Act.put,sb_,sz_,ss_]
 refine wpAnyH_take (i := 3) (oi := { dst := some 10, op := .fieldAddr 43 (.tmp 3) 0, type := 0, pos := "scan.go:38", after := #[], guard := none }) (v := ?v3) rfl (by kernel_rfl) (by kernel_rfl) (by kernel_rfl) (fun _ _ _ h => h) (Or.inl ⟨by rfl, ?hy3⟩) (by assumption) ?rest3
 case hy3=>(intro w hSw;(try dsimp only at hSw);go_simp;try (with_reducible rfl))
 try simp only [Act.put,sb_,sz_,ss_]
 refine wpAnyH_take (i := 4) (oi := { dst := some 11, op := .load 31 (.tmp 10), type := 31, pos := "scan.go:38", after := #[{ on := 3, ground := .data }], guard := none }) (v := ?v4) rfl (by kernel_rfl) (by kernel_rfl) (by kernel_rfl) (fun _ _ _ h => h) (Or.inl ⟨by rfl, ?hy4⟩) (by assumption) ?rest4
 case hy4=>(intro w hSw;(try dsimp only at hSw);go_simp;try (with_reducible rfl))
 try simp only [Act.put,sb_,sz_,ss_]
 refine wpAnyH_take (i := 5) (oi := { dst := some 12, op := .indexAddr 31 (.tmp 11) (.const (.int .i64 0)), type := 0, pos := "scan.go:38", after := #[{ on := 4, ground := .data }], guard := none }) (v := ?v5) rfl (by kernel_rfl) (by kernel_rfl) (by kernel_rfl) (fun _ _ _ h => h) (Or.inl ⟨by rfl, ?hy5⟩) (by assumption) ?rest5
 case hy5=>(intro w hSw;(try dsimp only at hSw);go_simp;try (with_reducible rfl))
 try simp only [Act.put,sb_,sz_,ss_]
 refine wpAnyH_take (i := 6) (oi := { dst := some 13, op := .load 3 (.tmp 12), type := 3, pos := "scan.go:38", after := #[{ on := 5, ground := .data }], guard := none }) (v := ?v6) rfl (by kernel_rfl) (by kernel_rfl) (by kernel_rfl) (fun _ _ _ h => h) (Or.inl ⟨by rfl, ?hy6⟩) (by assumption) ?rest6
 case hy6=>(intro w hSw;(try dsimp only at hSw);go_simp;try (with_reducible rfl))
 try simp only [Act.put,sb_,sz_,ss_]
 refine wpAnyH_take (i := 7) (oi := { dst := some 14, op := .build 172 #[(0, .tmp 13)], type := 172, pos := "scan.go:38", after := #[{ on := 6, ground := .data }], guard := none }) (v := ?v7) rfl (by kernel_rfl) (by kernel_rfl) (by kernel_rfl) (fun _ _ _ h => h) (Or.inl ⟨by rfl, ?hy7⟩) (by assumption) ?rest7
 case hy7=>(intro w hSw;(try dsimp only at hSw);go_simp;try (with_reducible rfl))
 try simp only [Act.put,sb_,sz_,ss_]
 refine wpAnyH_ready (rs:=[8]) (by kernel_rfl) (by simp) ?_
 refine AllReadyH.cons (o := { dst := some 15, op := .build 174 #[(0, .tmp 7), (1, .tmp 8), (2, .tmp 9), (4, .const (.int .i64 1)), (5, .const (.int .i64 1)), (10, .tmp 14)], type := 174, pos := "scan.go:38", after := #[{ on := 0, ground := .data }, { on := 1, ground := .data }, { on := 2, ground := .data }, { on := 7, ground := .data }], guard := none }) rfl (fun K hK => ?_) AllReadyH.nil
 refine QZ rfl 174 _ rfl (beginC (s_ ge ne ce) (.slice ar nr cr) (.slice ac nc cc) most depth x) (by kernel_rfl) ?_
 refine hK.out _ _ dF (fun fV=>?_);clear hK K
 try simp only [Act.put,sb_,sz_,ss_]
 refine wpAnyH_ready (rs:=[9]) (by kernel_rfl) (by simp) ?_
 refine AllReadyH.cons (o := { dst := none, op := .store 174 (.tmp 6) (.tmp 15), type := 0, pos := "scan.go:38", after := #[{ on := 8, ground := .data }, { on := 0, ground := .phase }, { on := 1, ground := .phase }, { on := 2, ground := .phase }, { on := 3, ground := .phase }, { on := 4, ground := .phase }, { on := 5, ground := .phase }, { on := 6, ground := .phase }, { on := 7, ground := .phase }, { on := 8, ground := .phase }], guard := none }) rfl (fun K hK => step_store_row rfl 174 (.tmp 6) (.tmp 15) rfl (w.heap.size + 1) (beginC (.slice (some ⟨ge, 0, none⟩) ne ce) (.slice ar nr cr) (.slice ac nc cc) most depth x) rfl rfl 174 _ KR Tryz.size174 rfl (beginC_ok _ _ _ _ _ _ _ _ _ _ _ _) (hK.out _ _ T1.o (fun _ => ?_))) AllReadyH.nil
 refine wpAnyH_done (by kernel_rfl) ?_ _;clear T1 dF fV KR p0 p1 p2 hE';generalize W0.drew.setRow (w.heap.size+1) (beginC (s_ ge ne ce) (.slice ar nr cr) (.slice ac nc cc) most depth x)=W1 at *;go_wp2;refine br_ (v:=.agg (beginC (s_ ge ne ce) (.slice ar nr cr) (.slice ac nc cc) most depth x)) ?_ rfl ⟨rfl,hB2.o⟩;rw [tY Tryz.results71];exact run_loadVar_row W1 (w.heap.size+1) 174 174 (beginC (s_ ge ne ce) (.slice ar nr cr) (.slice ac nc cc) most depth x) (0,0) _ KF.o Tryz.underlying174 rfl Tryz.size174
def CO (s:Y_) (most depth:Int):Prop:=(Form s/\iy (eX s))/\(1<=most/\most<=64)/\(0<=depth/\depth<=8)
theorem Cw {P:Program} {rest:List Oper} {o:Oper} {a:Act} {Q:Exit->Act->W_->Prop} (hg:o.guard=none) (t:TypeId) (parts:Array (Nat × Operand)) (ho:o.op=.build t parts)
  (cells:Array V_) (hc:P.built t (parts.map fun (i,x)=>(i,a.eval x)).toList=some cells)
  (h:wpList P ops Q rest (a.put o.dst (.agg cells)) w):wpList P ops Q (o::rest) a w:=by
 refine wpList_build hg t parts ho (by rw [hc];rfl) ?_
 rw [hc];exact h
theorem Li (ve vr vc:V_) (p:oC) (most depth:Int):(beginC ve vr vc most depth (Pu.aU p.ents 0)).toList=kG ve vr vc n_ most depth (rD p) false 0:=rfl
end Go.Proofs.YtmccnmgaoppogaaGreat
