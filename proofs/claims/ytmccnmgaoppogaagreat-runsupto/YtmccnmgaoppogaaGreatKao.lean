import Derived.Test.YtmccnmgaoppogaaGreatKan
namespace Go.Proofs.YtmccnmgaoppogaaGreat
open Pu
set_option linter.all false
set_option maxRecDepth 100000
set_option maxHeartbeats 8000000
open Go.RowKit
namespace Pu
def Pq (modes m:Int):Int:=if modes<=m then m+1 else modes
end Pu
theorem Iu (g i:Nat) (s:Y_) (vn vl:V_) (modes down:Int) (w:W_) (h:Db w g s i vn vl modes down) (hs:s.size<=1000) (hL:fF (Pu.dG s i)) :
  C_ 94 #[p_ g] w (XC (I_ (Pu.dG s i-97)) g s (i+1) vn vl (Pq modes (Pu.dG s i-97)) down w):=by
 have i1:i<s.size:=Pu.fB (s:=s) (i:=i) (by unfold fF at hL;omega);have x0:=fun w=>dU s (i:Int) i rfl (by omega) w
 rw [<-lK i1] at x0;have j0:=jg i;have j1:(i:Int)<s.size:=by omega
 have wi:=kg i;unfold fF at hL;have c4:=bP 4 h rfl;have c5:=bP 5 h rfl;have H0:=bK h;clear h;generalize Pu.dG s i=b at *
 obtain⟨m,hm⟩:∃m:Int,b=m+97:=⟨b-97,by omega⟩
 subst hm;have wu:IntKind.u8.wrap (m+97-97)=m:=by rw [show m+97-97=m by omega];unfold IntKind.wrap;simp [IntKind.bits,IntKind.signed];omega
 have em:m+97-97=m:=by omega
 rw [em];have wm:=xF (m+1);have wm0:=xF m;go_enter Tryz.func94,Tryz.ntmps94
 go_wp2_with fail
 go_quiet (fail);have dn:=bd_ (Br_ w.heap.size w) nq;have H1:=bK (H0.o.below dn);have G1:=bK (jK (some g) dn);clear dn c4 c5 H0 x0;generalize w.drewN nq=W1 at *;have c5:=bP 5 H1.o rfl;have f5:=bL H1.o 5;have H2:Hid (Db (W1.setCell (a_ g 5) (I_ ((i:Int)+1))) g s (i+1) vn vl modes down):=H1.o.at (i+1);have G2:=bK (G1.o.trans (gs_ W1 g 5 (I_ ((i:Int)+1))));go_upto_region 3 with (fail)
 clear c5 f5 H1 G1;generalize W1.setCell (a_ g 5) (I_ ((i:Int)+1))=W2 at *;have c0:=bP 0 H2.o rfl;have f0:=bL H2.o 0;by_cases hc:modes<=m
 .have d1:decide (modes<=m)=true:=dt_ hc;have R:Hid (Pq modes m=m+1):=by show _=_;unfold Pq;rw [if_pos hc]
  have H3:=bK (H2.o.mode (m+1));go_wp2;go_ret;exact⟨rfl,G2.o.trans (gs_ _ g 0 _),by rw [R.o];exact H3.o⟩
 .have d1:decide (modes<=m)=false:=dn_ hc;have R:Hid (Pq modes m=modes):=by show _=_;unfold Pq;rw [if_neg hc]
  go_wp2;go_ret;exact⟨rfl,G2.o,by rw [R.o];exact H2.o⟩
structure IU where
 mode:Int
 emit:Int
 act:Int
 md:Int
 root:Int
def pz (x:IU):List V_:=[I_ x.mode,I_ x.emit,I_ x.act,I_ x.md,I_ x.root]
def Gl (ls:List IU):List V_:=ls.flatMap pz
theorem Pn (a b:List IU):Gl (a++b)=Gl a++Gl b:=by simp [Gl]
theorem abC (x:IU):Gl [x]=pz x:=by simp [Gl]
theorem pG {ls:List IU} {p j:Nat} {x:IU} (hp:ls[p]?=some x) (hj:j<5):(Gl ls)[p*5+j]?=(pz x)[j]?:=by
 induction ls generalizing p with
 | nil=>simp at hp
 | cons z r ih=>
  show (pz z++Gl r)[_]?=_;have hz:(pz z).length=5:=rfl
  cases p with
  | zero=>rw [List.getElem?_cons_zero] at hp;cases hp;rw [Nat.zero_mul,Nat.zero_add,al_ (by omega)]
  | succ p=>rw [cs_] at hp;rw [ar_ (by omega),hz,show (p+1)*5+j-5=p*5+j by omega];exact ih hp
theorem UB (x:IU):∀u∈pz x,u.oneCell'=true:=by intro u hu;simp [pz] at hu;rcases hu with rfl | rfl | rfl | rfl | rfl <;> rfl
theorem Pp:(Tryz.prog.info? 101).map (fun i=>(i.zero,i.size,i.bytes))=some (some (.agg (pz ⟨0,0,0,0,0⟩).toArray),5,40):=by kernel_rfl
structure LD (B g:Nat) (s:Y_) (j:Nat) (ns:List aF) (al:Option Addr) (cl:Nat) (ls:List IU) (modes down:Int) (w:W_) (gx:Nat) (x:IU) (W:W_):Prop where
 dr:∃vn,Dr B g s j ns vn (.slice al ls.length cl) modes down W
 be:Below B w W
 x:dh W gx 101 (pz x)
 row:W.ownsRow B 101 5 (.slice al ls.length cl) ls.length (Gl ls)
 ap:w.heap.size<=gx/\B<=w.heap.size/\some gx≠(Value.slice al ls.length cl).ownBlock
section
variable {B g:Nat} {s:Y_} {j j':Nat} {ns ns':List aF} {al:Option Addr} {cl:Nat} {ls:List IU} {modes down modes' down':Int} {w:W_} {gx:Nat} {x x':IU} {W W':W_} {vn:V_}
theorem LD.below (h:LD B g s j ns al cl ls modes down w gx x W) (hb:B_ W W'):LD B g s j ns al cl ls modes down w gx x W':=by obtain⟨vn,dr⟩:=h.dr;exact⟨⟨vn,dr.below hb⟩,h.be.trans (hb.mono dr.lt),bN h.x hb (bO h.x),bU h.row hb di,h.ap⟩
theorem LD.on (h:LD B g s j ns al cl ls modes down w gx x W) (hk:Dk B W W') (hd:Dr B g s j' ns' vn (.slice al ls.length cl) modes' down' W'):LD B g s j' ns' al cl ls modes' down' w gx x W':=
 ⟨⟨vn,hd⟩,h.be.trans hk.lo,hk.fA h.x (by decide) (by decide),hk.rows h.row (by decide) (by decide),h.ap⟩
theorem LD.eP (h:LD B g s j ns al cl ls modes down w gx x W) (hd0:Dr B g s j ns vn (.slice al ls.length cl) modes down W) (hg:W.grownBy W' (some g)) (hr:Db W' g s j' vn (.slice al ls.length cl) modes' down'):LD B g s j' ns al cl ls modes' down' w gx x W':=h.on (hd0.dk hg) (hd0.eP hg hr)
theorem LD.put (h:LD B g s j ns al cl ls modes down w gx x W) (k:Nat) (u:V_) (e:(pz x).set k u=pz x'):LD B g s j ns al cl ls modes down w gx x' (W.setCell (a_ gx k) u):=by obtain⟨vn,dr⟩:=h.dr;have hg:=gs_ W gx k u;have hx:=cO h.x k u;rw [e] at hx;exact⟨⟨vn,dB dr.rb (dD dr.rb h.x (by decide)) _ _,dr.up,dA dr.own h.x (by decide) hg⟩,h.be.grown hg (lt_ h.ap.2.1 (by have:=h.be.size;exact this)) (fun k' e'=>by cases e';exact lt_ h.ap.2.1 h.ap.1),hx,NI h.row h.ap.2.2 hg,h.ap⟩
end
namespace Pu
def Gw (modes:Int) (x:aC):Int:=if x.act=1\/x.act=2 then Pq (Pq modes x.mode) x.md else Pq modes x.mode
end Pu
theorem Po (x:IU):Instr.fill (fun i=>some (i*5,5)) ((Array.range (1*5)).map fun j=>((Value.agg (pz ⟨0,0,0,0,0⟩).toArray).cells)[j % (Value.agg (pz ⟨0,0,0,0,0⟩).toArray).cells.size]!) [(0,.agg (pz x).toArray)]=some (pz x).toArray:=by rw [ru];have:=uz (fun i=>some (i*5,5)) (pz x) ((List.range (1*5)).map fun j=>((Value.agg (pz ⟨0,0,0,0,0⟩).toArray).cells)[j % (Value.agg (pz ⟨0,0,0,0,0⟩).toArray).cells.size]!) rfl di;exact this
def XD (B g:Nat) (s:Y_) (i:Nat) (ns:List aF) (ls:List IU) (modes down:Int) (w:W_) (e:Ending) (w':W_):Prop:=
 e=.returned (.tuple #[])/\Below B w w'/\∃vn al cl,Dr B g s i ns vn (.slice al ls.length cl) modes down w'/\w'.ownsRow B 101 5 (.slice al ls.length cl) ls.length (Gl ls)
theorem UC (B g i k:Nat) (s:Y_) (ns:List aF) (vn:V_) (al:Option Addr) (cl:Nat) (ls:List IU) (modes down:Int) (x:aC) (w:W_) (h:Dr B g s i ns vn (.slice al ls.length cl) modes down w) (hrow:w.ownsRow B 101 5 (.slice al ls.length cl) ls.length (Gl ls)) (hs:s.size<=400) (hl:ns.length<=2*i) (hll:ls.length<=100) (_hmo:-100<=modes/\modes<=100) (hx:Hd s i k x) (hk:k=s.size\/Pu.dG s k=10) :
  C_ 64 #[p_ g] w (XD B g s (k+1) (ns++Pu.nodes x.re ns.length) (ls++[⟨x.mode,x.emit,x.act,x.md,((ns.length+x.re.size-1:Nat):Int)⟩]) (Gw modes x) (oF ls.length x.down down) w):=by
 cases hx with
 | @mk j _ re D em ac md hL h32 hP hj32 hA=>
 simp only;obtain⟨ip,hp,hp0,hp1,hp2⟩:=ip_ Pp;have BL:=h.lt;have X0:Hid (LD B g s i ns al cl ls modes down w w.heap.size ⟨0,0,0,0,0⟩ (w.alloc (c_ #[I_ 0,I_ 0,I_ 0,I_ 0,I_ 0] 101))):=by have hb:=(Br_ w.heap.size w).alloc di (c_ #[I_ 0,I_ 0,I_ 0,I_ 0,I_ 0] 101);exact⟨⟨vn,h.below hb⟩,hb.mono BL,hn_ _ _,bU hrow hb di,di,BL,fun e=>by have:=(ol_ hrow _ e.symm).2;omega⟩
 have i1:i<s.size:=Pu.fB (s:=s) (i:=i) (by unfold fF at hL;omega);have i2:i+1<s.size:=Pu.fB (s:=s) (i:=i+1) (by rw [h32];decide);have js:j<s.size:=Pu.fB (s:=s) (i:=j) (by rw [hj32];decide);have ij:=hP.leaves.2;have szP:=hP.size;simp only [aH.sz,aH.un] at szP;have aL:=hA.le;have lb:=hL;unfold fF at lb
 obtain⟨mo,aew⟩:∃mo,mo=Pu.dG s i-97:=⟨_,rfl⟩
 have NM:=bK (fun w1 vn1 (h1:Db w1 g s i vn1 (.slice al ls.length cl) modes down)=>Iu g i s vn1 (.slice al ls.length cl) modes down w1 h1 (by omega) hL);rw [<-aew] at NM;rw [<-aew];have fw:=bK (fun w1 vn1 (md1:Int) (h1:Dr B g s (i+2) ns vn1 (.slice al ls.length cl) md1 down w1)=>Jh s hs (i+2) j re D hP (.inl hj32) B g ns vn1 al ls.length cl md1 down w1 h1 (by omega));have HA:=bK hA;have HK:=bK hk;have wi1:IntKind.i64.wrap ((i:Int)+1+1)=(i:Int)+2:=by rw [oG _ (by omega) (by omega)];omega
 have wj1:=kg j;have wj2:=xF ((j:Int)+1+1);clear h hrow hL h32 hP hj32 hA hk aew lb;go_enter Tryz.func64,Tryz.ntmps64
 go_wp2_with fail
 generalize w.alloc (c_ #[I_ 0,I_ 0,I_ 0,I_ 0,I_ 0] 101)=W0 at *;obtain⟨vn0,hd0⟩:=X0.o.dr;generalize w.heap.size=gx at *;refine (NM.o W0 vn0 hd0.rb).mono ?_
 clear NM;rintro e w1 ⟨rfl,hg1,hr1⟩;have X1:=bK (X0.o.eP hd0 hg1 hr1);clear hd0 hg1 hr1 X0;generalize hm1:Pq modes mo=m1 at *;have x0:=bP 0 X1.o.x rfl;have xf0:=bL X1.o.x 0;have X2:=bK (X1.o.put (x':=⟨mo,0,0,0,0⟩) 0 (I_ mo) rfl);go_upto_region 2 with (fail)
 clear x0 xf0 X1;generalize w1.setCell (a_ gx 0) (I_ mo)=W2 at *;obtain⟨Rj,hd2⟩:=X2.o.dr;have c5:W2.cell? (a_ g 5)=some (I_ ((i:Int)+1)):=bM (j:=5) hd2.rb rfl;have f5:=bL hd2.rb 5;have X3:Hid (LD B g s (i+2) ns al cl ls m1 down w gx ⟨mo,0,0,0,0⟩ (W2.setCell (a_ g 5) (I_ ((i:Int)+2)))):=X2.o.eP hd2 (gs_ _ _ _ _) (hd2.rb.at (i+2));clear hd2
 go_wp2_with fail
 clear c5 f5 X2;generalize W2.setCell (a_ g 5) (I_ ((i:Int)+2))=W3 at *;obtain⟨vn3,hd3⟩:=X3.o.dr;refine (fw.o W3 vn3 m1 hd3).mono ?_
 clear fw hd3;rintro e w4 ⟨rfl,hk4,vn4,hd4⟩;have X4:=bK (X3.o.on hk4 hd4);clear hk4 hd4 X3;generalize hns:ns++Pu.nodes re ns.length=ns4 at *;generalize hro:((ns.length+re.size-1:Nat):Int)=ro at *;have x4:=bP 4 X4.o.x rfl;have xf4:=bL X4.o.x 4;have X5:=bK (X4.o.put (x':=⟨mo,0,0,0,ro⟩) 4 (I_ ro) rfl);go_upto_region 4 with (fail)
 clear x4 xf4 X4;generalize w4.setCell (a_ gx 4) (I_ ro)=W5 at *;obtain⟨Ke,hd5⟩:=X5.o.dr;have c5:=bP 5 hd5.rb rfl;have f5:=bL hd5.rb 5;have X6:Hid (LD B g s (j+1) ns4 al cl ls m1 (oF ls.length D down) w gx ⟨mo,0,0,0,ro⟩ (W5.setCell (a_ g 5) (I_ ((j:Int)+1)))):=X5.o.eP hd5 (gs_ _ _ _ _) (hd5.rb.at (j+1));clear hd5;go_upto_region 5 with (fail)
 clear c5 f5 X5;generalize W5.setCell (a_ g 5) (I_ ((j:Int)+1))=W6 at *;obtain⟨vn6,hd6⟩:=X6.o.dr
 have EB:nH (Pu.dG s (j+1)) em:=by
  cases HA.o with
  | plain h1 _ _ _=>exact h1
  | pop h1 _=>exact h1
  | bG h1 _ _=>exact h1
  | push h1 _ _=>exact h1
 have j1s:j+1<s.size:=Pu.fB EB.ne;have xk:∀w,(Instr.index 9 (.string s) (I_ ((j:Int)+1))).run Tryz.prog w=.ok (.int .u8 (Pu.dG s (j+1))) w:=by rw [lK j1s];exact fun w=>dU s ((j:Int)+1) (j+1) (by omega) j1s w
 have k0:(0:Int)<=j+1:=by omega
 have k1:(j:Int)+1<(s.size:Int):=by omega
 have c4:=bP 4 hd6.rb rfl;have c5:W6.cell? (a_ g 5)=some (I_ ((j:Int)+1)):=bM (j:=5) hd6.rb rfl;clear hd6;generalize Pu.dG s (j+1)=pe at *
 go_wp2_with fail
 go_quiet (fail);have X7:=bK (X6.o.below (bd_ (Br_ W6.heap.size W6) nq));clear X6 c4 c5 xk;generalize W6.drewN nq=W7 at *
 go_upto_if 33 with (fail)
 go_cut [] from 4 (fun wx=>LD B g s (j+1) ns4 al cl ls m1 (oF ls.length D down) w gx ⟨mo,em,0,0,ro⟩ wx)
 case first=>
  rcases EB with ⟨rfl,rfl⟩ | ⟨rfl,rfl⟩
  .have x1:=bM (j:=1) X7.o.x rfl;have xf1:=bL X7.o.x 1;have X8:=bK (X7.o.put (x':=⟨mo,1,0,0,ro⟩) 1 (I_ 1) rfl)
   go_wp2_with fail
   go_meet
   case rel=>exact X8.o
  .go_wp2_with fail
   go_meet
   case rel=>exact X7.o
 case rest=>
 have X8:=bK hcut;clear hcut X7 EB;obtain⟨vn8,hd8⟩:=X8.o.dr;have c5:wc.cell? (a_ g 5)=some (I_ ((j:Int)+1)):=bM (j:=5) hd8.rb rfl;have f5:=bL hd8.rb 5;have X9:Hid (LD B g s (j+2) ns4 al cl ls m1 (oF ls.length D down) w gx ⟨mo,em,0,0,ro⟩ (wc.setCell (a_ g 5) (I_ ((j:Int)+1+1)))):=X8.o.eP hd8 (gs_ _ _ _ _) (hd8.rb.at (j+2));clear hd8;go_upto_region 8 with (fail)
 clear c5 f5 X8;generalize wc.setCell (a_ g 5) (I_ ((j:Int)+1+1))=W9 at *;obtain⟨vn9,hd9⟩:=X9.o.dr;have c4:=bP 4 hd9.rb rfl;have c5:W9.cell? (a_ g 5)=some (I_ ((j:Int)+1+1)):=bM (j:=5) hd9.rb rfl;clear hd9
 go_cut [3,64] from 4 (fun _ tv wx=>∃tb,tv=.bool tb/\LD B g s (j+2) ns4 al cl ls m1 (oF ls.length D down) w gx ⟨mo,em,0,0,ro⟩ wx/\tb=decide (j+2<s.size/\Pu.dG s (j+2)≠10))
 case first=>
  by_cases hlt:j+2<s.size
  focus
   have d1:decide ((j:Int)+1+1<(s.size:Int))=true:=dt_ (by omega);have xk:∀w,(Instr.index 9 (.string s) (I_ ((j:Int)+1+1))).run Tryz.prog w=.ok (.int .u8 (Pu.dG s (j+2))) w:=by rw [lK hlt];exact fun w=>dU s ((j:Int)+1+1) (j+2) (by omega) hlt w
   have k0:(0:Int)<=j+1+1:=by omega
   have k1:(j:Int)+1+1<(s.size:Int):=by omega
   have R:Hid (decide (j+2<s.size/\Pu.dG s (j+2)≠10)=(Pu.dG s (j+2) != 10)):=by show _=_;rw [Bool.decide_and,dt_ hlt,Bool.true_and];by_cases e:Pu.dG s (j+2)=10 <;> simp [e]
   generalize aj9:Pu.dG s (j+2)=pk at *
  rotate_left
  focus
   have d1:decide ((j:Int)+1+1<(s.size:Int))=false:=dn_ (by omega);have R:Hid (decide (j+2<s.size/\Pu.dG s (j+2)≠10)=false):=dn_ (fun h=>hlt h.1)
  rotate_left
  all_goals
   go_quiet (fail);have X10:=bK (X9.o.below (bd_ (Br_ W9.heap.size W9) nq))
  .clear X9 c4 c5 xk;generalize W9.drewN nq=W10 at *
   go_wp2_with fail
   go_meet
   case rel=>exact⟨_,rfl,X10.o,by first | exact R.o.symm | (rw [aj9];exact R.o.symm)⟩
  .clear X9 c4 c5;generalize W9.drewN nq=W10 at *
   go_wp2_with fail
   go_meet
   case rel=>exact⟨_,rfl,X10.o,R.o.symm⟩
 case rest=>
 obtain⟨tb,rfl,hX,htb⟩:=hcut;have X10:=bK hX;have HTB:=bK htb;clear hX htb X9 c4 c5
 go_upto_if 64 with (fail)
 go_cut [] from 3 (fun wx=>LD B g s k ns4 al cl ls (if ac=1\/ac=2 then Pq m1 md else m1) (oF ls.length D down) w gx ⟨mo,em,ac,md,ro⟩ wx)
 case first=>
  have hA:=HA.o;have hK:=HK.o;have hTB:=HTB.o;clear HA HK HTB;have AFTER:∀pk,Pu.dG s (j+2)=pk->(pk=60\/pk=62\/pk=43)->tb=true/\j+2<s.size:=by intro pk hpk hc;have hlt:j+2<s.size:=Pu.fB (s:=s) (i:=j+2) (by omega);exact⟨by rw [hTB,dt_ ⟨hlt,by omega⟩],hlt⟩
  cases hA with
  | plain h1 h2 h3 h4=>
   have e:tb=false:=by
    rw [hTB];refine dn_ (fun h=>?_);rcases hK with e | e
    .omega
    .exact h.2 e
   subst e;clear AFTER hTB hK h1 h2 h3 h4
   go_wp2_with fail
   go_meet
   case rel=>exact X10.o
  | pop h1 h2=>?_
  | bG h1 h2 h3=>?_
  | push h1 h2 h3=>?_
  focus obtain⟨rfl,hlt⟩:=AFTER 60 h2 (.inl rfl)
  rotate_left
  focus obtain⟨rfl,hlt⟩:=AFTER 62 h2 (by omega)
  rotate_left
  focus obtain⟨rfl,hlt⟩:=AFTER 43 h2 (by omega)
  rotate_left
  all_goals
   clear AFTER hTB hK h1;have xk:∀w,(Instr.index 9 (.string s) (I_ ((j:Int)+1+1))).run Tryz.prog w=.ok (.int .u8 (Pu.dG s (j+2))) w:=by rw [lK hlt];exact fun w=>dU s ((j:Int)+1+1) (j+2) (by omega) hlt w
  focus rw [show Pu.dG s (j+2)=60 from h2] at xk
  rotate_left
  focus rw [show Pu.dG s (j+2)=62 from h2] at xk
  rotate_left
  focus rw [show Pu.dG s (j+2)=43 from h2] at xk
  rotate_left
  all_goals
   have k0:(0:Int)<=j+1+1:=by omega
   have k1:(j:Int)+1+1<(s.size:Int):=by omega
   have wj3:=xF ((j:Int)+1+1+1);obtain⟨vn10,aeo⟩:=X10.o.dr;have c4:=bP 4 aeo.rb rfl;have c5:wc.cell? (a_ g 5)=some (I_ ((j:Int)+1+1)):=bM (j:=5) aeo.rb rfl;clear aeo h2
   go_wp2_with fail
   go_quiet (fail);have X11:=bK (X10.o.below (bd_ (Br_ wc.heap.size wc) nq));clear X10 c4 c5 xk;generalize wc.drewN nq=W11 at *;obtain⟨vn11,YQ⟩:=X11.o.dr;have c5:W11.cell? (a_ g 5)=some (I_ ((j:Int)+1+1)):=bM (j:=5) YQ.rb rfl;have f5:=bL YQ.rb 5;have X12:Hid (LD B g s (j+3) ns4 al cl ls m1 (oF ls.length D down) w gx ⟨mo,em,0,0,ro⟩ (W11.setCell (a_ g 5) (I_ ((j:Int)+1+1+1)))):=X11.o.eP YQ (gs_ _ _ _ _) (YQ.rb.at (j+3));clear YQ;go_upto_region 11 with (fail);clear c5 f5 X11;generalize W11.setCell (a_ g 5) (I_ ((j:Int)+1+1+1))=W12 at *;have x2:=bP 2 X12.o.x rfl;have xf2:=bL X12.o.x 2
  .have X13:=bK (X12.o.put (x':=⟨mo,em,3,0,ro⟩) 2 (I_ 3) rfl)
   go_wp2_with fail
   go_meet
   case rel=>exact X13.o
  focus
   have X13:=bK (X12.o.put (x':=⟨mo,em,1,0,ro⟩) 2 (I_ 1) rfl);go_upto_region 15 with (fail);clear x2 xf2 X12;generalize W12.setCell (a_ gx 2) (I_ 1)=W13 at *
  rotate_left
  focus
   have X13:=bK (X12.o.put (x':=⟨mo,em,2,0,ro⟩) 2 (I_ 2) rfl);go_upto_region 18 with (fail);clear x2 xf2 X12;generalize W12.setCell (a_ gx 2) (I_ 2)=W13 at *
  rotate_left
  all_goals
   obtain⟨akV,YR⟩:=X13.o.dr;have NM:=bK (Iu g (j+3) s akV (.slice al ls.length cl) m1 _ W13 YR.rb (by omega) h3);have ED:Hid (YR=YR):=rfl;generalize hmd:Pu.dG s (j+3)-97=mdv at *
   go_wp2_with fail
   refine NM.o.mono ?_
   clear NM ED;rintro e w14 ⟨rfl,agU,ag4⟩;have X14:=bK (X13.o.eP YR agU ag4);clear YR agU ag4 X13;have x3:=bP 3 X14.o.x rfl;have xf3:=bL X14.o.x 3
  .have X15:=bK (X14.o.put (x':=⟨mo,em,1,mdv,ro⟩) 3 (I_ mdv) rfl)
   go_wp2_with fail
   go_meet
   case rel=>rw [if_pos (by decide)];exact X15.o
  .have X15:=bK (X14.o.put (x':=⟨mo,em,2,mdv,ro⟩) 3 (I_ mdv) rfl)
   go_wp2_with fail
   go_meet
   case rel=>rw [if_pos (by decide)];exact X15.o
 case rest=>
 have X20:=bK hcut;clear hcut X10 HTB;obtain⟨vn20,YS⟩:=X20.o.dr;have wk:=kg k;have c5:=bP 5 YS.rb rfl;have f5:=bL YS.rb 5;have X21:Hid (LD B g s (k+1) ns4 al cl ls (if ac=1\/ac=2 then Pq m1 md else m1) (oF ls.length D down) w gx ⟨mo,em,ac,md,ro⟩ (wc.setCell (a_ g 5) (I_ ((k:Int)+1)))):=X20.o.eP YS (gs_ _ _ _ _) (YS.rb.at (k+1));have MD:Hid (Gw modes ⟨mo,em,ac,md,re,D⟩=if ac=1\/ac=2 then Pq m1 md else m1):=by show _=_;unfold Gw;simp only;rw [hm1]
 clear YS hm1;go_upto_region 20 with (fail)
 rw [MD.o];clear MD;clear c5 f5 X20;generalize wc.setCell (a_ g 5) (I_ ((k:Int)+1))=W21 at *;generalize (if ac=1\/ac=2 then Pq m1 md else m1)=mm at *;generalize hy:(⟨mo,em,ac,md,ro⟩:IU)=y at *;have hb2:=((Br_ W21.heap.size W21).alloc di (c_ (pz y).toArray 101)).drew;have X23:=bK (X21.o.below hb2);obtain⟨ahK,Py⟩:=X23.o.dr;have BL2:B<=(W21.alloc (c_ (pz y).toArray 101)).drew.heap.size:=Py.lt;have S1:W21.drew.rangeAt gx 0 (pz y):=dZ (W:=W21.drew) X21.o.x;have S2:(W21.alloc (c_ (pz y).toArray 101)).drew.rangeAt gx 0 (pz y):=dZ X23.o.x;obtain⟨vn21,aep⟩:=X21.o.dr;have rl:=bO aep.rb;have ne1:g≠W21.heap.size:=by omega
 have yZ:W21.heap.size≠g:=by omega
 have c2:=bP 2 aep.rb rfl;have BLw:=BL;clear hb2 aep;refine wd_ (S:=fun w'=>w'.rangeAt gx 0 (pz y)) (by kernel_rfl) S1 (fun dF=>?_);refine bW 0 ?_
 refine bW 1 ?_
 refine bW 2 ?_
 refine bW 3 ?_
 refine wpAnyH_take (i:=5) (v:=(.agg (pz y).toArray)) rfl (by kernel_rfl) (by kernel_rfl) (by kernel_rfl) (fun _ _ _ h=>h) (yieldsIf_load_mid (by rfl) 101 (.tmp 2) rfl gx 0 rfl (pz y) _ (fun _ hS=>hS) Tryz.underlying101 rfl (by kernel_rfl)) (by assumption) ?_
 try simp only [nU,Act.put]
 refine xY 4 6 (fun K hK=>?_) (fun K hK=>?_)
 focus
  go_simp
  refine hK.out _ _ dF (fun fV=>?_);clear hK K
  try simp only [nU,Act.put]
  refine fq 6 (fun K hK=>?_)
 rotate_left
 focus have c2':=bM (j:=2) Py.rb rfl
 rotate_left
 all_goals
  refine eQ 97 101 0 (.tmp 112) (.agg (pz y).toArray) rfl rfl (pz y).toArray ip _ 5 Tryz.underlying97 hp hp0 hp1 (by omega) (by omega) (Po y) ?_
 rotate_left
 focus
  refine hK.out _ _ S2 (fun fV=>?_);clear hK K
  try simp only [nU,Act.put]
  refine fq 4 (fun K hK=>?_)
  go_simp
 all_goals
  refine hK.out _ _ S2 (fun lh=>?_);clear hK K
  try simp only [nU,Act.put]
  refine fq 7 (fun K hK=>?_);refine sa_ _ (by rfl) _ _ _ (by rfl) B 101 ip _ 5 40 Tryz.underlying97 hp hp0 hp1 hp2 (by rfl) (by omega) (.slice al ls.length cl) ls.length (Gl ls) (by rfl) X23.o.row (a_ W21.heap.size 0) 1 1 (pz y) (by rfl) (by rfl) (World.news_of_block (cs:=(pz y).toArray) (t:=101) (fr:=(0,0)) (hn_ _ _)) (UB y) (by omega) (by unfold maxLen;omega) (by omega) BL2 (W21.heap.size+1) (by simp) ?_
  intro g2 fE w2 dw bS jH kV;clear jH kV;have Lh:Below B w w2:=X23.o.be.grown bS BL2 (fun k' e'=>(ol_ X23.o.row k' e').1);have kD:Db w2 g s (k+1) ahK (.slice al ls.length cl) _ _:=dR X23.o.row Py.rb (by decide) bS;have on2:=fI Py.own X23.o.row (by decide) bS;have WJ:=bQ X23.o.x bS X23.o.ap.2.2;refine hK.out _ _ (dZ WJ) (fun lq=>?_);have k5:=bP 2 kD rfl;have Ps:=bL kD 2;clear hK K
  try simp only [nU,Act.put]
  refine bW 8 ?_
  refine bW 9 ?_
  refine fq 10 (fun K hK=>?_)
  go_simp
  have hg3:=gs_ w2 g 2 (s_ g2 (ls.length+1) fE);have xb3:=bQ WJ hg3 (fun e=>dD WJ kD (by decide) (oi_ e));refine hK.out _ _ (dZ xb3) (fun oM=>?_);clear hK K;refine wpAnyH_done (by kernel_rfl) ?_ _
  have FIN:Hid (XD B g s (k+1) ns4 (ls++[y]) mm (oF ls.length D down) w (.returned (.tuple #[])) (w2.setCell (a_ g 2) (s_ g2 (ls.length+1) fE))):=by
   refine⟨rfl,Lh.grown hg3 (lt_ BL2 bS.size) (fun k' e'=>by cases e';exact Py.up),ahK,some (a_ g2 0),fE,⟨?_,Py.up,dA on2 kD (by decide) hg3⟩,?_⟩
   .rw [la_];exact kD.lines _
   .have:=dA dw kD (by decide) hg3;rw [Pn,abC,la_];exact this
  clear dF fV lh lq oM kD WJ xb3 k5 Ps dw bS hg3 X23 Lh on2 Py;go_wp2
  go_end0
  exact FIN.o
structure DR where
 ns:List aF
 ls:List IU
 modes:Int
 down:Int
namespace Pu
def I8 (r:DR) (x:aC):DR:=⟨r.ns++nodes x.re r.ns.length,r.ls++[⟨x.mode,x.emit,x.act,x.md,((r.ns.length+x.re.size-1:Nat):Int)⟩],Gw r.modes x,oF r.ls.length x.down r.down⟩
def fG (ls:List aC):DR:=ls.foldl I8 ⟨[],[],0,-1⟩
theorem uk (ls:List aC) (x:aC):fG (ls++[x])=I8 (fG ls) x:=by simp [fG]
theorem Jm (ls:List aC):∀r:DR,(ls.foldl I8 r).ls.length=r.ls.length+ls.length:=by
 induction ls with
 | nil=>intro r;rfl
 | cons x t ih=>intro r;rw [List.foldl_cons,ih];simp [I8];omega
theorem sP (ls:List aC):(fG ls).ls.length=ls.length:=by unfold fG;rw [Jm];simp
theorem Hd.size {s:Y_} {i k:Nat} {x:aC} (h:Hd s i k x):x.re.size+2*i<=2*k:=by
 cases h with
 | mk h1 h2 h3 h4 h5=>have a:=h3.size;have b:=h5.le;simp only [aH.sz,aH.un] at a;simp only;omega
theorem abD {m:Int} {x:aC} (hx:KE x) (h:0<=m/\m<=4):0<=Gw m x/\Gw m x<=4:=by unfold KE at hx;unfold Gw Pq;split <;> split <;> (try split) <;> omega
end Pu
structure DI (s:Y_) (w:W_) (g k:Nat) (ls all:List aC) (W:W_):Prop where
 dr:∃vn al cl,Dr w.heap.size g s k (fG ls).ns vn (.slice al (fG ls).ls.length cl) (fG ls).modes (fG ls).down W/\W.ownsRow w.heap.size 101 5 (.slice al (fG ls).ls.length cl) (fG ls).ls.length (Gl (fG ls).ls)
 be:B_ w W
 on:(sM s k ls all/\k<s.size)\/(s.size<k/\ls=all)
 ns:(fG ls).ns.length<=2*k
 md:0<=(fG ls).modes/\(fG ls).modes<=4
 n:ls.length<=16
 le:k<=s.size+1
def agc (s:Y_) (all:List aC) (w:W_) (e:Ending) (w':W_):Prop:=
 ∃g vn al cl,e=.returned (p_ g)/\B_ w w'/\Dr w.heap.size g s (s.size+1) (fG all).ns vn (.slice al (fG all).ls.length cl) (fG all).modes (fG all).down w'/\w'.ownsRow w.heap.size 101 5 (.slice al (fG all).ls.length cl) (fG all).ls.length (Gl (fG all).ls)
theorem Pu.sM.pos {s:Y_} {i:Nat} {ls all:List aC} (h:sM s i ls all):i<s.size:=by
 cases h with
 | done h1=>have:=h1.le;omega
 | more h1=>have:=h1.le;omega
theorem UF (s:Y_) (hs:s.size<=400) (all:List aC) (hA:sM s 0 [] all) (w:W_) :
  C_ 28 #[.string s] w (agc s all w):=by
 have hp:=hA.pos
 have I0:Hid (DI s w w.heap.size 0 [] all (w.alloc (c_ #[I_ 0,n_,n_,I_ (-1),.string s,I_ 0] 99))):=
  ⟨⟨n_,none,0,⟨hn_ _ _,di,fT _ _ _ _⟩,fT _ _ _ _⟩,mi _,.inl ⟨hA,hp⟩,zl_ _,by decide,by simp,zl_ _⟩
 go_enter Tryz.func28,Tryz.ntmps28
 go_wp2_with fail
 go_loopg [7] (s.size+1) (fun gk _ wx=>∃k ls,gk=s.size+1-k/\DI s w w.heap.size k ls all wx)
 case atStart=>exact⟨0,[],rfl,I0.o⟩
 case round=>
  clear I0;obtain⟨k,ls,rfl,hI⟩:=hrel;obtain⟨vn,al,cl,hd,hr⟩:=hI.dr;have c5:=bP 5 hd.rb rfl;rcases hI.on with ⟨hL,hk⟩ | ⟨hk,rfl⟩
  .have d1:=nV k s.size;have LL:=sP ls
   have pE:Hid (∃(x:aC) (j:Nat),Hd s k j x/\(j=s.size\/Pu.dG s j=10)/\ls.length+1<=16/\((sM s (j+1) (ls++[x]) all/\j+1<s.size)\/(s.size<j+1/\ls++[x]=all))):=by
    have n:=hI.n;have hc:=hA.zl
    cases hL with
    | done h1=>exact⟨_,_,h1,.inl rfl,by have:=hc.2.2;simpa using this,.inr ⟨ls_ _,rfl⟩⟩
    | more h1 h2 h3 h4=>exact⟨_,_,h1,.inr h2,by omega,.inl ⟨h4,h4.pos⟩⟩
   obtain⟨x,j,hx,hj,hn,hon⟩:=pE.o;clear pE;have fw:=bK (fun W (h:Dr w.heap.size w.heap.size s k (fG ls).ns vn (.slice al (fG ls).ls.length cl) (fG ls).modes (fG ls).down W) (h2:W.ownsRow w.heap.size 101 5 (.slice al (fG ls).ls.length cl) (fG ls).ls.length (Gl (fG ls).ls))=>UC w.heap.size w.heap.size k j s (fG ls).ns vn al cl (fG ls).ls (fG ls).modes (fG ls).down x W h h2 hs hI.ns (by omega) (by have:=hI.md;omega) hx hj);have HD:=bK (And.intro hd hr)
   have NEXT:Hid (∀w2,Below w.heap.size wr w2->(∃vn al cl,Dr w.heap.size w.heap.size s (j+1) (fG (ls++[x])).ns vn (.slice al (fG (ls++[x])).ls.length cl) (fG (ls++[x])).modes (fG (ls++[x])).down w2/\w2.ownsRow w.heap.size 101 5 (.slice al (fG (ls++[x])).ls.length cl) (fG (ls++[x])).ls.length (Gl (fG (ls++[x])).ls))->DI s w w.heap.size (j+1) (ls++[x]) all w2):=by
    intro w2 hb h2;have b:=hx.le;have c:=hx.size;refine⟨h2,hI.be.trans hb,hon,?_,?_,by simpa using hn,by omega⟩
    .rw [uk];have:=hI.ns;simp only [I8,la_,Pu.bR];omega
    .rw [uk];exact abD hx.bd hI.md
   have HX:=hx.le;clear hI hd hr hL hon hx hj LL
   go_wp2_with fail
   refine (fw.o _ HD.o.1 HD.o.2).mono ?_
   clear fw HD;rintro e w2 ⟨rfl,hb,Rj,Ci,Ad,hd2,hr2⟩;have N2:Hid (DI s w w.heap.size (j+1) (ls++[x]) all w2):=NEXT.o w2 hb ⟨Rj,Ci,Ad,by rw [uk];exact hd2,by rw [uk];exact hr2⟩;clear NEXT hd2 hr2 hb c5;go_wp2;go_roundg (s.size+1-(j+1))
   case measure=>omega
   case rel=>exact⟨j+1,ls++[x],rfl,N2.o⟩
  .have d1:=mM k s.size;have HI:=bK hI;have HD:=bK (And.intro hd hr);have ek:k=s.size+1:=by have:=hI.le;omega
   clear hI hd hr;go_wp2;go_ret;subst ek;exact⟨_,vn,al,cl,rfl,HI.o.be,HD.o.1,HD.o.2⟩
def qM (n:Nat) (f:Nat->Bool):List V_:=(List.range n).map (fun i=>.bool (f i))
theorem gH {n:Nat} (f:Nat->Bool) {i:Nat} (h:i<n):(qM n f)[i]?=some (.bool (f i)):=by simp [qM,h]
theorem oU {n:Nat} {f g:Nat->Bool} (h:∀i,i<n->f i=g i):qM n f=qM n g:=by unfold qM;refine List.map_congr_left (fun i hi=>?_);rw [h i (List.mem_range.1 hi)]
def uf (f:Nat->Bool) (k:Nat) (b:Bool):Nat->Bool:=fun i=>if i=k then b else f i
theorem CS (n:Nat) (f:Nat->Bool) (k:Nat) (b:Bool):(qM n f).set k (.bool b)=qM n (uf f k b):=by
 refine List.ext_getElem? (fun i=>?_);rw [List.getElem?_set];unfold qM uf;by_cases hi:i<n
 .by_cases hk:k=i
  .subst hk;simp [hi]
  .rw [if_neg hk];simp [hi,Ne.symm hk]
 .simp [hi];intro _;omega
theorem Yg (n:Nat):qM n (fun _=>false)=List.replicate n (.bool false):=by unfold qM;rw [List.map_const',List.length_range]
theorem Us:(Tryz.prog.info? 4).map (fun i=>(i.zero,i.size,i.bytes))=some (some (.bool false),1,1):=by kernel_rfl
def Bl (W:W_) (g n:Nat) (f:Nat->Bool):Prop:=dh W g 4 (qM n f)
theorem Vx (n:Nat):madeCells (Value.bool false).cells (n*1)=(qM n (fun _=>false)).toArray:=by rw [Yg];unfold madeCells;refine Array.ext (by simp) (fun i h1 h2=>?_);simp [Value.cells,Nat.mod_one]
theorem qx (n:Nat) (hn:n<=100000) (w:W_):(Instr.makeSlice 203 (I_ n) (I_ n)).run Tryz.prog w=.ok (s_ w.heap.size n n) (w.alloc (c_ (qM n (fun _=>false)).toArray 4)):=by obtain⟨i,h1,h2,h3,h4⟩:=ip_ Us;have:=run_make (P:=Tryz.prog) w 203 4 i (.bool false) Tryz.underlying203 h1 h2 .i64 .i64 (n:Int) (n:Int) (by omega) (Int.le_refl _) (by rw [h4];omega) (by omega);rw [this,h3,tn_,Vx]
def Ry (n:Nat) (f:Nat->Bool) (w:W_) (e:Ending) (w':W_):Prop:=
 ∃g,e=.returned (s_ g n n)/\B_ w w'/\w.heap.size<=g/\Bl w' g n f
theorem uu (n ga gb:Nat) (f1 f2:Nat->Bool) (w:W_) (h1:Bl w ga n f1) (h2:Bl w gb n f2) (hn:n<=100000) :
  C_ 97 #[s_ ga n n,s_ gb n n] w (Ry n (fun i=>f1 i || f2 i) w):=by
 have hmk:=qx n hn;have B0:Hid (B_ w (w.alloc (c_ (qM n (fun _=>false)).toArray 4))):=mi _;have O0:Hid (Bl (w.alloc (c_ (qM n (fun _=>false)).toArray 4)) w.heap.size n (fun _=>false)):=hn_ _ _;have H1:=bK h1;have H2:=bK h2;have la:=bO h1;have lb:=bO h2;clear h1 h2;go_enter Tryz.func97,Tryz.ntmps97
 go_wp2_with fail
 go_loopg [6,10] n (fun gk kv _ wx=>∃k:Nat,k<=n/\gk=n-k/\kv=I_ k/\B_ w wx/\Bl wx w.heap.size n (fun i=>decide (i<k) && (f1 i || f2 i)))
 case atStart=>exact⟨0,zl_ _,rfl,rfl,B0.o,by have:=O0.o;unfold Bl at *;rw [oU (g:=fun _=>false) (fun i _=>by simp)];exact this⟩
 case round=>
  clear B0 O0 hmk;obtain⟨k,kn,rfl,rfl,hb,ho⟩:=hrel;by_cases hk:k<n
  .have d1:=nV k n;have wi:=kg k;have aS:=jg k;have i1:(k:Int)<n:=by omega
   have ca:=bM (bN H1.o hb la) (gH f1 hk);have cb:=bM (bN H2.o hb lb) (gH f2 hk);have co:=bM ho (gH _ hk);have fo:=bL ho k;have HB:=bK hb;have HO:=bK ho;clear hb ho
   have NEXT:Hid (∀b,b=(f1 k || f2 k)->Bl (wr.setCell (a_ w.heap.size k) (.bool b)) w.heap.size n (fun i=>decide (i<k+1) && (f1 i || f2 i))):=by
    intro b hb;have:=cO HO.o k (.bool b);rw [CS] at this;unfold Bl;rw [oU (g:=uf (fun i=>decide (i<k) && (f1 i || f2 i)) k b)]
    .exact this
    .intro i _;unfold uf;by_cases hi:i=k
     .subst hi;simp [hb]
     .rw [if_neg hi];have:decide (i<k+1)=decide (i<k):=by simp only [decide_eq_decide];omega
      rw [this]
   have BE:Hid (∀b,B_ w (wr.setCell (a_ w.heap.size k) (.bool b))):=fun b=>HB.o.setCell di _
   clear HB HO
   cases e1:f1 k with
   | true=>?_
   | false=>?_
   focus
    rw [e1] at ca;have N1:=NEXT.o true (by rw [e1];rfl)
   rotate_left
   focus
    rw [e1] at ca;have N1:=NEXT.o (f2 k) (by rw [e1];rfl)
   all_goals
    have HN:=bK N1;clear N1 NEXT e1;go_wp2;go_roundg (n-(k+1))
    case measure=>omega
    case rel=>exact⟨k+1,by omega,rfl,by go_num,BE.o _,HN.o⟩
  .have d1:=mM k n;have ek:k=n:=by omega
   subst ek;have HB:=bK hb;have HO:Hid (Bl wr w.heap.size k (fun i=>f1 i || f2 i)):=by unfold Bl Hid;rw [oU (g:=fun i=>decide (i<k) && (f1 i || f2 i)) (fun i hi=>by simp [hi])];exact ho
   clear hb ho;go_wp2;go_ret;exact⟨_,rfl,HB.o,di,HO.o⟩
namespace Pu
def rG (f:Nat->Bool):Nat->Nat
 | 0=>0
 | n+1=>rG f n+(if f n=true then 1 else 0)
theorem Sj (f:Nat->Bool):∀n,rG f n<=n
 | 0=>di
 | n+1=>by have:=Sj f n;unfold rG;split <;> omega
theorem Hz (f:Nat->Bool):∀n,rG f n=0↔∀i,i<n->f i=false
 | 0=>by simp [rG]
 | n+1=>by
  have ih:=Hz f n;unfold rG;constructor
  .intro h i hi;by_cases e:i=n
   .subst e
    cases hf:f i with
    | true=>rw [hf] at h;simp at h
    | false=>rfl
   .exact ih.1 (by omega) i (by omega)
  .intro h;have:=h n (by omega);rw [this,ih.2 (fun i hi=>h i (by omega))];rfl
end Pu
theorem Uy (n ga:Nat) (f:Nat->Bool) (w:W_) (h1:Bl w ga n f) (hn:n<=100000) :
  C_ 100 #[s_ ga n n] w (mW (I_ (rG f n:Int)) w):=by
 have H1:=bK h1;have la:=bO h1;clear h1;go_enter Tryz.func100,Tryz.ntmps100
 go_wp2_with fail
 go_loopg [3,4,5] n (fun gk nv kv _ wx=>∃k:Nat,k<=n/\gk=n-k/\nv=I_ (rG f k:Int)/\kv=I_ k/\B_ w wx)
 case atStart=>exact⟨0,zl_ _,rfl,rfl,rfl,Br_ _ _⟩
 case round=>
  obtain⟨k,kn,rfl,rfl,rfl,hb⟩:=hrel;have cl:=Sj f k;by_cases hk:k<n
  .have d1:=nV k n;have wi:=kg k;have wc:=xF ((rG f k:Int)+1);have aS:=jg k;have i1:(k:Int)<n:=by omega
   have ca:=bM (bN H1.o hb la) (gH f hk);have HB:=bK hb;clear hb
   cases e1:f k with
   | true=>
    rw [e1] at ca;have NX:Hid (rG f (k+1)=rG f k+1):=by show _=_;rw [rG,if_pos e1]
    clear e1;go_wp2;go_roundg (n-(k+1))
    case measure=>omega
    case rel=>exact⟨k+1,by omega,rfl,by rw [NX.o];go_num,by go_num,HB.o⟩
   | false=>
    rw [e1] at ca;have NX:Hid (rG f (k+1)=rG f k):=by show _=_;rw [rG,e1];rfl
    clear e1;go_wp2;go_roundg (n-(k+1))
    case measure=>omega
    case rel=>exact⟨k+1,by omega,rfl,by rw [NX.o],by go_num,HB.o⟩
  .have d1:=mM k n;have ek:k=n:=by omega
   subst ek;have HB:=bK hb;clear hb;go_wp2;go_ret;exact⟨rfl,HB.o⟩
namespace Pu
def Un (n:Nat) (f g:Nat->Bool):Bool:=decide (∀i,i<n->f i=g i)
end Pu
theorem Um (n ga gb:Nat) (f1 f2:Nat->Bool) (w:W_) (h1:Bl w ga n f1) (h2:Bl w gb n f2) (hn:n<=100000) :
  C_ 124 #[s_ ga n n,s_ gb n n] w (mW (.bool (Pu.Un n f1 f2)) w):=by
 have H1:=bK h1;have H2:=bK h2;have la:=bO h1;have lb:=bO h2;clear h1 h2;go_enter Tryz.func124,Tryz.ntmps124
 go_wp2_with fail
 go_loopg [5,6] n (fun gk kv _ wx=>∃k:Nat,k<=n/\gk=n-k/\kv=I_ k/\B_ w wx/\∀i,i<k->f1 i=f2 i)
 case atStart=>exact⟨0,zl_ _,rfl,rfl,Br_ _ _,fun i hi=>absurd hi (Nat.not_lt_zero _)⟩
 case round=>
  obtain⟨k,kn,rfl,rfl,hb,he⟩:=hrel;have HE:=bK he;have HB:=bK hb;clear he;by_cases hk:k<n
  .have d1:=nV k n;have wi:=kg k;have aS:=jg k;have i1:(k:Int)<n:=by omega
   have ca:=bM (bN H1.o hb la) (gH f1 hk);have cb:=bM (bN H2.o hb lb) (gH f2 hk);clear hb;by_cases e:f1 k=f2 k
   focus
    have e1:(f1 k == f2 k)=true:=by simp [e]
    have HN:Hid (∀i,i<k+1->f1 i=f2 i):=fun i hi=>by
     by_cases hi':i=k
     .rw [hi'];exact e
     .exact HE.o i (by omega)
   rotate_left
   focus
    have e1:(f1 k == f2 k)=false:=by simp [e]
    have R:Hid (Pu.Un n f1 f2=false):=dn_ (fun h=>e (h k hk))
   rotate_left
   all_goals
    clear e HE;generalize f1 k=b1 at *;generalize f2 k=b2 at *
    go_wp2_with fail
    go_quiet (fail);have dn:=bK (bd_ HB.o nq);go_wp2
   .go_roundg (n-(k+1))
    case measure=>omega
    case rel=>exact⟨k+1,by omega,rfl,by go_num,dn.o,HN.o⟩
   .go_ret
    exact⟨by rw [R.o];rfl,dn.o⟩
  .have d1:=mM k n;have ek:k=n:=by omega
   subst ek;have R:Hid (Pu.Un k f1 f2=true):=dt_ HE.o;clear HE hb;go_wp2;go_ret;exact⟨by rw [R.o];rfl,HB.o⟩
def mX (n:Nat) (gs:List Nat):List V_:=gs.map (fun g=>s_ g n n)
theorem wM (n:Nat) (gs:List Nat):(mX n gs).length=gs.length:=by simp [mX]
theorem eY {n:Nat} {gs:List Nat} {i g:Nat} (h:gs[i]?=some g):(mX n gs)[i]?=some (s_ g n n):=by simp [mX,h]
theorem sS (n:Nat) (a b:List Nat):mX n (a++b)=mX n a++mX n b:=by simp [mX]
structure Bls (B:Nat) (W:W_) (v:V_) (n:Nat) (gs:List Nat) (fs:List (Nat->Bool)):Prop where
 own:W.ownsRow B 203 1 v gs.length (mX n gs)
 len:gs.length=fs.length
 row:∀(i g:Nat) (f:Nat->Bool),gs[i]?=some g->fs[i]?=some f->Bl W g n f
theorem Bls.below {B:Nat} {W W':W_} {v:V_} {n:Nat} {gs:List Nat} {fs:List (Nat->Bool)} (h:Bls B W v n gs fs) (hb:B_ W W'):Bls B W' v n gs fs:=
 ⟨bU h.own hb di,h.len,fun i g f h1 h2=>bN (h.row i g f h1 h2) hb (bO (h.row i g f h1 h2))⟩
namespace Pu
def GK (n:Nat) (s:Nat->Bool):List (Nat->Bool)->Nat->Int
 | [],_=>-1
 | f::r,k=>if Un n f s=true then (k:Int) else GK n s r (k+1)
end Pu
theorem VT (B n gb:Nat) (v:V_) (gs:List Nat) (f0:Nat->Bool) (fs:List (Nat->Bool)) (s:Nat->Bool) (w:W_) (h1:Bls B w v n gs (f0::fs)) (h2:Bl w gb n s) (hn:n<=100000) (hl:fs.length<=100000) :
  C_ 101 #[v,s_ gb n n] w (mW (I_ (GK n s fs 1)) w):=by
 have len:=h1.len;rw [lc_] at len;obtain⟨gv,cap,rfl,hc1,hc2⟩:=dJ h1.own (by omega);rw [len];have H1:=bK h1;have H2:=bK h2;clear h1 h2;go_enter Tryz.func101,Tryz.ntmps101
 go_wp2_with fail
 go_loopg [5,6,7] fs.length (fun gk kv _ _ wx=>∃k:Nat,k<=fs.length/\gk=fs.length-k/\kv=I_ ((k:Int)+1)/\B_ w wx/\GK n s (fs.drop k) (k+1)=GK n s fs 1)
 case atStart=>exact⟨0,zl_ _,rfl,rfl,Br_ _ _,rfl⟩
 case round=>
  obtain⟨k,kn,rfl,rfl,hb,he⟩:=hrel;have HE:=bK he;have HB:=bK hb;clear he;by_cases hk:k<fs.length
  .have d1:decide ((k:Int)+1<(fs.length:Int)+1)=true:=dt_ (by omega);have wi:=xF ((k:Int)+1+1);have aS:(0:Int)<=k+1:=by omega
   have i1:(k:Int)+1<(fs.length:Int)+1:=by omega
   obtain⟨gk,Km⟩:∃g,gs[k+1]?=some g:=⟨_,gg_ (by omega)⟩;obtain⟨f,hf⟩:=qG fs k hk;have hX:=H1.o.below hb;have aO:wr.cell? (a_ gv (k+1))=some (s_ gk n n):=bT hX.own (eY Km);have tn:((k:Int)+1).toNat=k+1:=by omega
   have fw:=bK (Um n gk gb f s wr (hX.row (k+1) gk f Km (by rw [cs_];exact hf)) (bN H2.o hb (bO H2.o)) hn);have ST:Hid (GK n s fs 1=if Pu.Un n f s=true then ((k+1:Nat):Int) else GK n s (fs.drop (k+1)) (k+1+1)):=by show _=_;rw [<-HE.o];rw [show fs.drop k=f::fs.drop (k+1) by rw [List.drop_eq_getElem?_toList_append,hf];rfl];rfl
   clear hX hb HE Km hf
   go_wp2_with fail
   refine fw.o.mono ?_
   clear fw;rintro e w2 ⟨rfl,hb2⟩;have B2:=bK (HB.o.trans (hb2.mono HB.o.size));clear hb2
   cases hq:Pu.Un n f s with
   | true=>rw [hq] at ST;have R:Hid (GK n s fs 1=(k:Int)+1):=ST.o;clear ST;go_wp2;go_ret;exact⟨by rw [R.o];rfl,B2.o⟩
   | false=>
    rw [hq] at ST;have R:Hid (GK n s (fs.drop (k+1)) (k+1+1)=GK n s fs 1):=ST.o.symm;clear ST;go_wp2;go_roundg (fs.length-(k+1))
    case measure=>omega
    case rel=>exact⟨k+1,by omega,rfl,by go_num,B2.o,R.o⟩
  .have d1:decide ((k:Int)+1<(fs.length:Int)+1)=false:=dn_ (by omega);have ek:k=fs.length:=by omega
   have R:Hid (GK n s fs 1=-1):=by show _=_;rw [<-HE.o,ek,List.drop_length];rfl
   clear HE hb;go_wp2;go_ret;exact⟨by rw [R.o];rfl,HB.o⟩
end Go.Proofs.YtmccnmgaoppogaaGreat
