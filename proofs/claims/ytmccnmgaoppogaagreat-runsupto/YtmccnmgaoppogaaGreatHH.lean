import Derived.Test.YtmccnmgaoppogaaGreatKas
namespace Go.Proofs.YtmccnmgaoppogaaGreat
open Pu
set_option linter.all false
set_option maxRecDepth 100000
set_option maxHeartbeats 8000000
open Go.RowKit
variable {g:Nat} {xs:List V_} {modes:Int} {f1 f2:Nat->Bool}
section
variable {gs:List Nat} {w w':W_} {gg gr gf cap n:Nat} {fo:Nat->Nat->Bool}
theorem Gf.Tm {t:Nat} (h:Gf w gg gr gf cap n gs fo) (hb:dh w g t xs) (ht:t≠4):g∉gs:=by intro hg;obtain⟨i,hi⟩:=gf_ hg;exact dD hb (h.row i g hi) ht rfl
theorem Gf.up (h:Gf w gg gr gf cap n gs fo):∀g∈gs,g<w.heap.size:=by intro g hg;obtain⟨i,hi⟩:=gf_ hg;exact bO (h.row i g hi)
theorem Gk.rows {B t size m:Nat} {v:V_} (hk:Gk gs w w') (h:Gf w gg gr gf cap n gs fo) (hn:w.ownsRow B t size v m xs) (ht:t≠4):w'.ownsRow B t size v m xs:=by
 refine⟨hn.1,?_⟩;rcases hn.2 with h0 | ⟨g,cap,cur,h3,h4,h5,h6⟩
 .exact .inl h0
 .refine .inr ⟨g,cap,cur,h3,h4,?_,h6⟩;have hl:=(Array.getElem?_eq_some_iff.1 h5).1
  rw [hk.block g hl (fun hg=>by
   obtain⟨i,hi⟩:=gf_ hg;have:=h.row i g hi;unfold Bl dh at this;rw [this] at h5;cases h5
   exact ht rfl)]
  exact h5
theorem Gk.dr {B i:Nat} {s:Y_} {ns:List aF} {vn vl:V_} {down:Int} (hk:Gk gs w w') (h:Gf w gg gr gf cap n gs fo) (hd:Dr B g s i ns vn vl modes down w):Dr B g s i ns vn vl modes down w':=
 ⟨hk.fA hd.rb (h.Tm hd.rb (by decide)),hd.up,hk.rows h hd.own (by decide)⟩
end
def Xd (e:Bool) (v1 v2:V_):List V_:=[.bool e,v1,v2]
abbrev cZ (g n:Nat):V_:=s_ g n n
structure MF (B g i:Nat) (s:Y_) (ns:List aF) (vn vl:V_) (modes down:Int) (gg gf cap:Nat) (gs:List Nat) (fo:Nat->Nat->Bool) (x:aF) (r gx:Nat) (w W:W_):Prop where
 dr:Dr B g s i ns vn vl modes down W
 gf:Gf W gg g gf cap ns.length gs fo
 gk:Gk gs w W
 aY:dh W r 205 (Xd false n_ n_)
 nd:dh W gx 161 (dN x)
 up:∀g∈gs,g<w.heap.size
 lr:w.heap.size<=r
section
variable {B g i:Nat} {s:Y_} {ns:List aF} {vn vl:V_} {modes down:Int} {gg gf cap:Nat} {gs:List Nat} {fo Gm:Nat->Nat->Bool} {x:aF} {r gx:Nat} {w W W':W_}
theorem MF.below (h:MF B g i s ns vn vl modes down gg gf cap gs fo x r gx w W) (hb:B_ W W'):MF B g i s ns vn vl modes down gg gf cap gs fo x r gx w W':=
 ⟨h.dr.below hb,h.gf.below hb,h.gk.trans (.below hb),bN h.aY hb (bO h.aY),bN h.nd hb (bO h.nd),h.up,h.lr⟩
theorem MF.on (h:MF B g i s ns vn vl modes down gg gf cap gs fo x r gx w W) (hk:Gk gs W W') (hf:Gf W' gg g gf cap ns.length gs Gm):MF B g i s ns vn vl modes down gg gf cap gs Gm x r gx w W':=
 ⟨hk.dr h.gf h.dr,hf,h.gk.trans hk,hk.fA h.aY (h.gf.Tm h.aY (by decide)),hk.fA h.nd (h.gf.Tm h.nd (by decide)),h.up,h.lr⟩
def Dc (w:W_):W_:=w.alloc (c_ #[.bool false,n_,n_] 205)
theorem iX (w:W_):B_ w (Dc w):=mi _
theorem MF.new (hd:Dr B g s i ns vn vl modes down w) (hf:Gf w gg g gf cap ns.length gs fo) (x:aF):MF B g i s ns vn vl modes down gg gf cap gs fo x w.heap.size (Dc w).heap.size w (lH (Dc w) x):=by have b2:=kE (Dc w) x;have b:=(iX w).trans (b2.mono (iX w).size);have r:dh (Dc w) w.heap.size 205 (Xd false n_ n_):=hn_ _ _;exact⟨hd.below b,hf.below b,.below b,bN r b2 (bO r),nD (Dc w) x,hf.up,di⟩
end
def jV (e0:Bool) (f1 f2:Nat->Bool) (gg gr gf cap n:Nat) (gs:List Nat) (fo:Nat->Nat->Bool) (w:W_) (e:Ending) (w':W_):Prop:=
 ∃ga gb,e=.returned (.agg #[.bool e0,cZ ga n,cZ gb n])/\Gk gs w w'/\Gf w' gg gr gf cap n gs fo/\w.heap.size<=ga/\w.heap.size<=gb/\Bl w' ga n f1/\Bl w' gb n f2
theorem Qd {W:W_} {a b c:V_} (h:dh W g 205 [a,b,c]):(loadVar 205 (a_ g 0)).run Tryz.prog W=.ok (.agg #[a,b,c]) W:=
 run_loadVar_mid W g 0 205 [a,b,c] _ (dZ h) Tryz.underlying205 rfl (by kernel_rfl)
section
variable {gs:List Nat} {w W W':W_} {gg gr gf cap n:Nat} {fo:Nat->Nat->Bool}
theorem Gk.Aw (h:Gk gs w W) (hg:W.grownBy W' (some g)) (hl:w.heap.size<=g):Gk gs w W':=
 ⟨hg.os.trans h.os,hg.tape.trans h.tape,hg.output.trans h.output,lt_ h.size hg.size,fun k hk hn=>(hg.block k (Nat.lt_of_lt_of_le hk h.size) (fun e=>by cases e;omega)).trans (h.block k hk hn)⟩
theorem Gf.o {t:Nat} (h:Gf W gg gr gf cap n gs fo) (hb:dh W g t xs) (ht:t≠202) (ht2:t≠203) (hg:W.grownBy W' (some g)) (hn:g∉gs):Gf W' gg gr gf cap n gs fo:=
 ⟨bQ h.b hg (fun e=>by cases e;exact dD h.b hb (fun e=>ht e.symm) rfl),dA h.own hb ht2 hg,h.len,fun i g' e=>bQ (h.row i g' e) hg (fun e'=>by cases e';exact hn (mg_ e)),h.nd⟩
theorem AZ {r gc gd:Nat} {x y z:V_} (hk:Gk gs w W) (hf:Gf W gg gr gf cap n gs fo) (up:∀g∈gs,g<w.heap.size) (hr:dh W r 205 [x,y,z]) (lr:w.heap.size<=r) (lc:w.heap.size<=gc) (ld:w.heap.size<=gd) (bc:Bl W gc n f1) (bd:Bl W gd n f2) (e:Bool) :
  (loadVar 205 (a_ r 0)).run Tryz.prog (jO W r (.bool e) (cZ gc n) (cZ gd n))=.ok (.agg #[.bool e,cZ gc n,cZ gd n]) (jO W r (.bool e) (cZ gc n) (cZ gd n))/\
  jV e f1 f2 gg gr gf cap n gs fo w (.returned (.agg #[.bool e,cZ gc n,cZ gd n])) (jO W r (.bool e) (cZ gc n) (cZ gd n)):=by
 have hg:=iP W r (.bool e) (cZ gc n) (cZ gd n);refine⟨Qd (ja hr _ _ _),gc,gd,rfl,hk.Aw hg lr,hf.o hr (by decide) (by decide) hg (fun h=>by have:=up r h;omega),lc,ld,?_,?_⟩
 .exact bQ bc hg (fun e=>by cases e;exact dD bc hr (by decide) rfl)
 .exact bQ bd hg (fun e=>by cases e;exact dD bd hr (by decide) rfl)
end
theorem fD (W:W_) (o0 o1 o2:Obj):B_ W (((W.alloc o0).alloc o1).alloc o2).drew/\(((W.alloc o0).alloc o1).alloc o2).drew.heap[W.heap.size]?=some o0/\(((W.alloc o0).alloc o1).alloc o2).drew.heap[W.heap.size+1]?=some o1/\(((W.alloc o0).alloc o1).alloc o2).drew.heap[W.heap.size+1+1]?=some o2:=by
 have a1:B_ W (W.alloc o0):=mi _;have a2:Below (W.alloc o0).heap.size (W.alloc o0) ((W.alloc o0).alloc o1):=mi _;have a3:Below ((W.alloc o0).alloc o1).heap.size ((W.alloc o0).alloc o1) (((W.alloc o0).alloc o1).alloc o2):=mi _;have s1:(W.alloc o0).heap.size=W.heap.size+1:=wa_ _ _;have s2:((W.alloc o0).alloc o1).heap.size=W.heap.size+1+1:=by rw [wa_,s1]
 have n0:=hn_ W o0;have n1:=hn_ (W.alloc o0) o1;have n2:=hn_ ((W.alloc o0).alloc o1) o2;rw [s1] at n1;rw [s2] at n2;refine⟨((a1.trans (a2.mono a1.size)).trans (a3.mono (a1.trans (a2.mono a1.size)).size)).drew,?_,?_,n2⟩
 .show (((W.alloc o0).alloc o1).alloc o2).heap[W.heap.size]?=_;rw [a3.block _ (by omega),a2.block _ (by omega)];exact n0
 .show (((W.alloc o0).alloc o1).alloc o2).heap[W.heap.size+1]?=_;rw [a3.block _ (by omega)];exact n1
theorem Vz (B g i:Nat) (s:Y_) (ns:List aF) (vn vl:V_) (modes down:Int) (hn:ns.length<=100000) (gg gf cap:Nat) (gs:List Nat) (fo:Nat->Nat->Bool) (T:Nat->Bool) (p:Nat) (w:W_) (hd:Dr B g s i ns vn vl modes down w) (hf:Gf w gg g gf cap ns.length gs fo) (hx:ns[p]?=some ⟨1,0,0,T⟩) :
  C_ 96 #[p_ gg,I_ p] w (jV false (fun k=>decide (k=p)) (fun k=>decide (k=p)) gg g gf cap ns.length gs fo w):=by
 obtain⟨gn,Cj,rfl,hr⟩:=(hd.below (iX w)).get hx;have hm:p<ns.length:=(ge_.1 hx).1;have aS:=jg p;have i1:(p:Int)<ns.length:=by omega
 have M1:=bK (MF.new hd hf ⟨1,0,0,T⟩);have C0:Hid ((Dc w).cell? (a_ gg 0)=some (p_ g)):=bM (j:=0) (hf.below (iX w)).b rfl;have C1:Hid ((Dc w).cell? (a_ g 1)=some (s_ gn ns.length Cj)):=bM (j:=1) (hd.below (iX w)).rb rfl;have LW:Hid (w.heap.size<=(Dc w).heap.size):=(iX w).size;have HR:=bK hr;clear hr hd hx hf;go_enter Tryz.func96,Tryz.ntmps96;go_upto_region 1 with (fail)
 rw [show w.alloc (c_ #[.bool false,n_,n_] 205)=Dc w from rfl];generalize Dc w=W0 at *;generalize hq:w.heap.size=r at *;have c0:W0.cell? (a_ gg 0)=some (p_ g):=C0.o;have c1:W0.cell? (a_ g 1)=some (s_ gn ns.length Cj):=C1.o;have zv:=mg;clear C0 C1;go_upto_region 2 with (first | (refine wl_ rfl 161 (.tmp 21) rfl gn (p*259) rfl _ _ HR.o Tryz.underlying161 rfl iq ?_) | (refine ws_ rfl 161 (.tmp 5) (.tmp 22) rfl W0.heap.size 0 (dN ⟨1,0,0,T⟩).toArray rfl rfl (iY _) (lY _) (oc_ (iO _)) ?_))
 clear c0 c1 zv HR;rw [show (W0.alloc (c_ xX.toArray 161)).setCells W0.heap.size 0 (dN ⟨1,0,0,T⟩)=lH W0 ⟨1,0,0,T⟩ from rfl];generalize lH W0 ⟨1,0,0,T⟩=W1 at *;generalize W0.heap.size=gx at *;have c0:=bP 0 M1.o.gf.b rfl;have c1:=bP 1 M1.o.dr.rb rfl;have y0:W1.cell? (a_ gx 0)=some (I_ 1):=bM (j:=0) M1.o.nd rfl;have hmk:=qx ns.length hn;go_upto_region 4 with (fail)
 clear c0 c1 y0
 go_cut [7] from 8 (fun mv wx=>∃ga gb gm,mv=p_ gm/\MF B g i s ns (s_ gn ns.length Cj) vl modes down gg gf cap gs fo ⟨1,0,0,T⟩ r gx w wx/\(r<=ga/\r<=gb/\ga≠gb)/\Bl wx ga ns.length (fun _=>false)/\Bl wx gb ns.length (fun _=>false)/\dh wx gm 205 (Xd false (cZ ga ns.length) (cZ gb ns.length)))
 case first=>
  have RL:r<=W1.heap.size:=ll_ (bO M1.o.aY)
  go_region
  all_goals
   go_wp2_with fail
   go_meet
   case rel=>
    first
     | exact⟨W1.heap.size,(W1.heap.size+1),(W1.heap.size+1+1),rfl,M1.o.below (fD W1 _ _ _).1,⟨by omega,by omega,by omega⟩,(fD W1 _ _ _).2.1,(fD W1 _ _ _).2.2.1,(fD W1 _ _ _).2.2.2⟩
     | exact⟨W1.heap.size,(W1.heap.size+1+1),(W1.heap.size+1),rfl,M1.o.below (fD W1 _ _ _).1,⟨by omega,by omega,by omega⟩,(fD W1 _ _ _).2.1,(fD W1 _ _ _).2.2.2,(fD W1 _ _ _).2.2.1⟩
     | exact⟨(W1.heap.size+1),W1.heap.size,(W1.heap.size+1+1),rfl,M1.o.below (fD W1 _ _ _).1,⟨by omega,by omega,by omega⟩,(fD W1 _ _ _).2.2.1,(fD W1 _ _ _).2.1,(fD W1 _ _ _).2.2.2⟩
     | exact⟨(W1.heap.size+1),(W1.heap.size+1+1),W1.heap.size,rfl,M1.o.below (fD W1 _ _ _).1,⟨by omega,by omega,by omega⟩,(fD W1 _ _ _).2.2.1,(fD W1 _ _ _).2.2.2,(fD W1 _ _ _).2.1⟩
     | exact⟨(W1.heap.size+1+1),W1.heap.size,(W1.heap.size+1),rfl,M1.o.below (fD W1 _ _ _).1,⟨by omega,by omega,by omega⟩,(fD W1 _ _ _).2.2.2,(fD W1 _ _ _).2.1,(fD W1 _ _ _).2.2.1⟩
     | exact⟨(W1.heap.size+1+1),(W1.heap.size+1),W1.heap.size,rfl,M1.o.below (fD W1 _ _ _).1,⟨by omega,by omega,by omega⟩,(fD W1 _ _ _).2.2.2,(fD W1 _ _ _).2.2.1,(fD W1 _ _ _).2.1⟩
 case rest=>
  obtain⟨ga,gb,gm,rfl,hM,⟨la,lb,ne⟩,ba,bb,bm⟩:=hcut;have m0:=bP 0 bm rfl;have m1:=bP 1 bm rfl;have m2:=bP 2 bm rfl;have ca:=bM ba (gH _ hm);have cb:=bM bb (gH _ hm);have aP:=bL ba p;have aQ:=bL bb p;have z0:=bP 0 hM.aY rfl;have z1:=bP 1 hM.aY rfl;have z2:=bP 2 hM.aY rfl;have aY:=bL hM.aY 0;have r1:=bL hM.aY 1;have r2:=bL hM.aY 2;have n1:gm≠ga:=dD bm ba (by decide);have n2:gm≠gb:=dD bm bb (by decide);have n3:r≠ga:=dD hM.aY ba (by decide);have n4:r≠gb:=dD hM.aY bb (by decide);have n5:ga≠gm:=fun e=>n1 e.symm
  have n6:gb≠gm:=fun e=>n2 e.symm
  have n7:ga≠r:=fun e=>n3 e.symm
  have n8:gb≠r:=fun e=>n4 e.symm
  have ne':gb≠ga:=fun e=>ne e.symm
  have FIN:Hid (∀W6,W6=(wc.setCell (a_ ga p) (.bool true)).setCell (a_ gb p) (.bool true)->(loadVar 205 (a_ r 0)).run Tryz.prog (jO W6 r (.bool false) (cZ ga ns.length) (cZ gb ns.length))=.ok (.agg #[.bool false,cZ ga ns.length,cZ gb ns.length]) (jO W6 r (.bool false) (cZ ga ns.length) (cZ gb ns.length))/\jV false (fun k=>decide (k=p)) (fun k=>decide (k=p)) gg g gf cap ns.length gs fo w (.returned (.agg #[.bool false,cZ ga ns.length,cZ gb ns.length])) (jO W6 r (.bool false) (cZ ga ns.length) (cZ gb ns.length))):=by
   rintro W6 rfl;have g1:=gs_ wc ga p (.bool true);have g2:=gs_ (wc.setCell (a_ ga p) (.bool true)) gb p (.bool true);have one:qM ns.length (fun k=>decide (k=p))=qM ns.length (uf (fun _=>false) p true):=oU (fun k _=>by unfold uf;by_cases e:k=p <;> simp [e]);have a1:=cO ba p (.bool true);have b1:=bQ bb g1 (fun e=>ne' (oi_ e));have b2:=cO b1 p (.bool true);rw [CS,<-one] at a1 b2;have hl:w.heap.size<=ga/\w.heap.size<=gb:=by have:=hM.lr;omega
   have na:ga∉gs:=fun h=>by have:=hM.up _ h;omega
   have nb:gb∉gs:=fun h=>by have:=hM.up _ h;omega
   have r1:=bQ hM.aY g1 (fun e=>n3 (oi_ e));exact AZ ((hM.gk.Aw g1 hl.1).Aw g2 hl.2) ((hM.gf.o ba (by decide) (by decide) g1 na).o b1 (by decide) (by decide) g2 nb) hM.up (bQ r1 g2 (fun e=>n4 (oi_ e))) hM.lr hl.1 hl.2 (bQ a1 g2 (fun e=>ne (oi_ e))) b2 false
  clear hM ba bb bm M1;go_wp2;refine br_ (v:=.agg #[.bool false,cZ ga ns.length,cZ gb ns.length]) ?_ rfl (FIN.o _ rfl).2;simp [results,Tryz.results96,asAddr,(FIN.o _ rfl).1]
structure MA (w:W_) (gs:List Nat) (n gA ga gb:Nat) (e0:Bool) (f1 f2:Nat->Bool) (W:W_):Prop where
 ma:dh W gA 205 (Xd e0 (cZ ga n) (cZ gb n))
 aP:Bl W ga n f1
 aQ:Bl W gb n f2
 la:w.heap.size<=ga
 lb:w.heap.size<=gb
 lm:w.heap.size<=gA
section
variable {w W W':W_} {gs:List Nat} {n gA ga gb:Nat} {e0:Bool} {f1 f2:Nat->Bool}
theorem MA.on (h:MA w gs n gA ga gb e0 f1 f2 W) (up:∀g∈gs,g<w.heap.size) (hk:Gk gs W W'):MA w gs n gA ga gb e0 f1 f2 W':=
 ⟨hk.fA h.ma (fun k=>by have:=up _ k;have:=h.lm;omega),hk.fA h.aP (fun k=>by have:=up _ k;have:=h.la;omega),hk.fA h.aQ (fun k=>by have:=up _ k;have:=h.lb;omega),h.la,h.lb,h.lm⟩
theorem MA.below (h:MA w gs n gA ga gb e0 f1 f2 W) (hb:B_ W W'):MA w gs n gA ga gb e0 f1 f2 W':=
 ⟨bN h.ma hb (bO h.ma),bN h.aP hb (bO h.aP),bN h.aQ hb (bO h.aQ),h.la,h.lb,h.lm⟩
theorem MA.na (h:MA w gs n gA ga gb e0 f1 f2 W) (up:∀g∈gs,g<w.heap.size):ga∉gs:=fun k=>by have:=up _ k;have:=h.la;omega
theorem MA.nb (h:MA w gs n gA ga gb e0 f1 f2 W) (up:∀g∈gs,g<w.heap.size):gb∉gs:=fun k=>by have:=up _ k;have:=h.lb;omega
end
def yY (w:W_) (e:Bool) (v1 v2:V_):W_:=w.alloc (c_ #[.bool e,v1,v2] 205)
theorem jo (w:W_) (e:Bool) (v1 v2:V_):B_ w (yY w e v1 v2):=mi _
theorem uY (w:W_) (e:Bool) (v1 v2:V_):dh (yY w e v1 v2) w.heap.size 205 (Xd e v1 v2):=hn_ _ _
theorem Rc {B i:Nat} {s:Y_} {ns:List aF} {vn vl:V_} {down:Int} {gg gf cap:Nat} {gs:List Nat} {fo Gm:Nat->Nat->Bool} {x:aF} {r gx gA ga gb:Nat} {e0:Bool} {w W:W_} (M:MF B g i s ns vn vl modes down gg gf cap gs fo x r gx w W) (A:MA w gs ns.length gA ga gb e0 f1 f2 W) (ne:r≠gA) (e:Bool) (hc:∀i k,i<ns.length->k<ns.length->fo i k=Gm i k) :
  (loadVar 205 (a_ r 0)).run Tryz.prog (jO (W.setCell (a_ gA 0) (.bool e)) r (.bool e) (cZ ga ns.length) (cZ gb ns.length))=.ok (.agg #[.bool e,cZ ga ns.length,cZ gb ns.length]) (jO (W.setCell (a_ gA 0) (.bool e)) r (.bool e) (cZ ga ns.length) (cZ gb ns.length))/\
  jV e f1 f2 gg g gf cap ns.length gs Gm w (.returned (.agg #[.bool e,cZ ga ns.length,cZ gb ns.length])) (jO (W.setCell (a_ gA 0) (.bool e)) r (.bool e) (cZ ga ns.length) (cZ gb ns.length)):=by
 have g1:=gs_ W gA 0 (.bool e);have na:gA∉gs:=fun k=>by have:=M.up _ k;have:=A.lm;omega
 exact AZ (M.gk.Aw g1 A.lm) (((M.gf.congr hc)).o A.ma (by decide) (by decide) g1 na) M.up (bQ M.aY g1 (fun e=>ne (oi_ e))) M.lr A.la A.lb (bQ A.aP g1 (fun e=>dD A.aP A.ma (by decide) (oi_ e))) (bQ A.aQ g1 (fun e=>dD A.aQ A.ma (by decide) (oi_ e))) e
theorem AQ (B g i:Nat) (s:Y_) (ns:List aF) (vn vl:V_) (modes down:Int) (hn:ns.length<=100000) (gg gf cap:Nat) (gs:List Nat) (fo fo2:Nat->Nat->Bool) (T:Nat->Bool) (p kd l:Nat) (e0:Bool) (f1 f2:Nat->Bool) (w:W_) (hd:Dr B g s i ns vn vl modes down w) (hf:Gf w gg g gf cap ns.length gs fo) (hx:ns[p]?=some ⟨kd,l,0,T⟩) (hkd:kd=4\/kd=5\/kd=6)
  (fw:∀W,Dr B g s i ns vn vl modes down W->Gf W gg g gf cap ns.length gs fo->C_ 96 #[p_ gg,I_ l] W (jV e0 f1 f2 gg g gf cap ns.length gs fo2 W)) :
  C_ 96 #[p_ gg,I_ p] w (jV (e0 || decide (kd≠5)) f1 f2 gg g gf cap ns.length gs (fun a c=>fo2 a c || (decide (kd≠6) && (f2 a && f1 c))) w):=by
 obtain⟨gn,Cj,rfl,hr⟩:=(hd.below (iX w)).get hx;have hm:p<ns.length:=(ge_.1 hx).1;have aS:=jg p;have i1:(p:Int)<ns.length:=by omega
 have M1:=bK (MF.new hd hf ⟨kd,l,0,T⟩);have C0:Hid ((Dc w).cell? (a_ gg 0)=some (p_ g)):=bM (j:=0) (hf.below (iX w)).b rfl;have C1:Hid ((Dc w).cell? (a_ g 1)=some (s_ gn ns.length Cj)):=bM (j:=1) (hd.below (iX w)).rb rfl;have HR:=bK hr;have CA:=bK fw;clear hr hd hx hf fw;go_enter Tryz.func96,Tryz.ntmps96;go_upto_region 1 with (fail)
 rw [show w.alloc (c_ #[.bool false,n_,n_] 205)=Dc w from rfl];generalize Dc w=W0 at *;generalize hq:w.heap.size=r at *;have c0:W0.cell? (a_ gg 0)=some (p_ g):=C0.o;have c1:W0.cell? (a_ g 1)=some (s_ gn ns.length Cj):=C1.o;have zv:=mg;clear C0 C1;go_upto_region 2 with (first | (refine wl_ rfl 161 (.tmp 21) rfl gn (p*259) rfl _ _ HR.o Tryz.underlying161 rfl iq ?_) | (refine ws_ rfl 161 (.tmp 5) (.tmp 22) rfl W0.heap.size 0 (dN ⟨kd,l,0,T⟩).toArray rfl rfl (iY _) (lY _) (oc_ (iO _)) ?_))
 clear c0 c1 zv HR;rw [show (W0.alloc (c_ xX.toArray 161)).setCells W0.heap.size 0 (dN ⟨kd,l,0,T⟩)=lH W0 ⟨kd,l,0,T⟩ from rfl];generalize lH W0 ⟨kd,l,0,T⟩=W1 at *;generalize W0.heap.size=gx at *;have c0:=bP 0 M1.o.gf.b rfl;have c1:=bP 1 M1.o.dr.rb rfl;have y0:W1.cell? (a_ gx 0)=some (I_ kd):=bM (j:=0) M1.o.nd rfl;have y1:W1.cell? (a_ gx 1)=some (I_ l):=bM (j:=1) M1.o.nd rfl;have d1:decide ((kd:Int)=1)=false:=dn_ (by omega);have d2:=nV (3:Int) (kd:Int)
 go_wp2_with fail
 refine (CA.o _ M1.o.dr M1.o.gf).mono ?_
 clear CA c0 c1 y0 y1;rintro e w2 ⟨ga,gb,rfl,hk2,hf2,la,lb,ba,bb⟩;have M2:=bK ((M1.o.on hk2 hf2).below (jo w2 e0 (cZ ga ns.length) (cZ gb ns.length)));have A2:Hid (MA w gs ns.length w2.heap.size ga gb e0 f1 f2 (yY w2 e0 (cZ ga ns.length) (cZ gb ns.length))):=by have h1:=M1.o.gk.size;have hb:=jo w2 e0 (cZ ga ns.length) (cZ gb ns.length);exact⟨uY _ _ _ _,bN ba hb (bO ba),bN bb hb (bO bb),by omega,by omega,by have:=hk2.size;omega⟩
 have NE:Hid (r≠w2.heap.size):=by have:=bO M1.o.aY;have:=hk2.size;intro e;omega
 clear hk2 hf2 la lb ba bb M1;go_upto_region 9 with (fail)
 rw [show w2.alloc (c_ #[.bool e0,cZ ga ns.length,cZ gb ns.length] 205)=yY w2 e0 (cZ ga ns.length) (cZ gb ns.length) from rfl];generalize yY w2 e0 (cZ ga ns.length) (cZ gb ns.length)=W3 at *;generalize w2.heap.size=gA at *;have hup:=M2.o.up;rcases hkd with rfl | rfl | rfl
 focus
  skip
  have y0:W3.cell? (a_ gx 0)=some (I_ 4):=bM (j:=0) M2.o.nd rfl;have a0:=bP 0 A2.o.ma rfl;have a1:=bP 1 A2.o.ma rfl;have a2:=bP 2 A2.o.ma rfl
  go_wp2_with fail
  refine (yE gg g gf cap ns.length gb ga gs fo2 f2 f1 W3 M2.o.gf A2.o.aQ A2.o.aP (A2.o.nb hup) (A2.o.na hup) hn).mono ?_
  rintro e w4 ⟨rfl,hk4,SH⟩;have M4:=bK (M2.o.on hk4 SH);have A4:=bK (A2.o.on hup hk4);clear hk4 SH M2 A2 y0 a0 a1 a2;have y0:w4.cell? (a_ gx 0)=some (I_ 4):=bM (j:=0) M4.o.nd rfl
 rotate_left
 focus
  skip
  have y0:W3.cell? (a_ gx 0)=some (I_ 5):=bM (j:=0) M2.o.nd rfl;have a0:=bP 0 A2.o.ma rfl;have a1:=bP 1 A2.o.ma rfl;have a2:=bP 2 A2.o.ma rfl
  go_wp2_with fail
  refine (yE gg g gf cap ns.length gb ga gs fo2 f2 f1 W3 M2.o.gf A2.o.aQ A2.o.aP (A2.o.nb hup) (A2.o.na hup) hn).mono ?_
  rintro e w4 ⟨rfl,hk4,SH⟩;have M4:=bK (M2.o.on hk4 SH);have A4:=bK (A2.o.on hup hk4);clear hk4 SH M2 A2 y0 a0 a1 a2;have y0:w4.cell? (a_ gx 0)=some (I_ 5):=bM (j:=0) M4.o.nd rfl
 rotate_left
 .skip
  have y0:W3.cell? (a_ gx 0)=some (I_ 6):=bM (j:=0) M2.o.nd rfl;have a0:=bP 0 A2.o.ma rfl;have a1:=bP 1 A2.o.ma rfl;have a2:=bP 2 A2.o.ma rfl;have aW:=bL A2.o.ma 0;have z0:=bP 0 M2.o.aY rfl;have z1:=bP 1 M2.o.aY rfl;have z2:=bP 2 M2.o.aY rfl;have aY:=bL M2.o.aY 0;have r1:=bL M2.o.aY 1;have r2:=bL M2.o.aY 2;have ne1:r≠gA:=NE.o;have yZ:gA≠r:=fun e=>ne1 e.symm
  have FIN:=bK (fun e=>Rc M2.o A2.o NE.o e (Gm:=fun a c=>fo2 a c || (decide ((6:Nat)≠6) && (f2 a && f1 c))) (fun a c _ _=>by simp));clear M2 A2
  cases e0 with
  | true=>?_
  | false=>?_
  all_goals
   go_wp2;exact br_ (by simp [results,Tryz.results96,asAddr,(FIN.o true).1]) rfl (FIN.o true).2
 all_goals
  have a0:=bP 0 A4.o.ma rfl;have a1:=bP 1 A4.o.ma rfl;have a2:=bP 2 A4.o.ma rfl;have aW:=bL A4.o.ma 0;have z0:=bP 0 M4.o.aY rfl;have z1:=bP 1 M4.o.aY rfl;have z2:=bP 2 M4.o.aY rfl;have aY:=bL M4.o.aY 0;have r1:=bL M4.o.aY 1;have r2:=bL M4.o.aY 2;have ne1:r≠gA:=NE.o;have yZ:gA≠r:=fun e=>ne1 e.symm
 .have FIN:=bK (fun e=>Rc M4.o A4.o NE.o e (Gm:=fun a c=>fo2 a c || (decide ((4:Nat)≠6) && (f2 a && f1 c))) (fun a c _ _=>by simp));clear M4 A4
  cases e0 with
  | true=>?_
  | false=>?_
  all_goals
   go_wp2;exact br_ (by simp [results,Tryz.results96,asAddr,(FIN.o true).1]) rfl (FIN.o true).2
 .have FIN:=bK (fun e=>Rc M4.o A4.o NE.o e (Gm:=fun a c=>fo2 a c || (decide ((5:Nat)≠6) && (f2 a && f1 c))) (fun a c _ _=>by simp));clear M4 A4
  cases e0 with
  | true=>go_wp2;exact br_ (by simp [results,Tryz.results96,asAddr,(FIN.o true).1]) rfl (FIN.o true).2
  | false=>go_wp2;exact br_ (by simp [results,Tryz.results96,asAddr,(FIN.o false).1]) rfl (FIN.o false).2
section
variable {gs:List Nat} {w W W':W_} {gg gr gf cap n:Nat} {fo:Nat->Nat->Bool}
theorem Tg {r gM gc gd:Nat} {x y z a b c:V_} (hk:Gk gs w W) (hf:Gf W gg gr gf cap n gs fo) (up:∀g∈gs,g<w.heap.size) (hr:dh W r 205 [x,y,z]) (lr:w.heap.size<=r) (lc:w.heap.size<=gc) (ld:w.heap.size<=gd) (bc:Bl W gc n f1) (bd:Bl W gd n f2) (hM:dh W gM 205 [a,b,c]) (lM:w.heap.size<=gM) (ne:r≠gM) (hg:W.grownBy W' (some gM)) (e:Bool) :
  (loadVar 205 (a_ r 0)).run Tryz.prog (jO W' r (.bool e) (cZ gc n) (cZ gd n))=.ok (.agg #[.bool e,cZ gc n,cZ gd n]) (jO W' r (.bool e) (cZ gc n) (cZ gd n))/\
  jV e f1 f2 gg gr gf cap n gs fo w (.returned (.agg #[.bool e,cZ gc n,cZ gd n])) (jO W' r (.bool e) (cZ gc n) (cZ gd n)):=by
 have na:gM∉gs:=fun k=>by have:=up _ k;omega
 exact AZ (hk.Aw hg lM) (hf.o hM (by decide) (by decide) hg na) up (bQ hr hg (fun e=>ne (oi_ e))) lr lc ld (bQ bc hg (fun e=>dD bc hM (by decide) (oi_ e))) (bQ bd hg (fun e=>dD bd hM (by decide) (oi_ e))) e
end
theorem jV.congr {e0:Bool} {Ee f2':Nat->Bool} {gg gr gf cap n:Nat} {gs:List Nat} {fo:Nat->Nat->Bool} {w w':W_} {e:Ending} (h:jV e0 f1 f2 gg gr gf cap n gs fo w e w') (c1:∀k,f1 k=Ee k) (c2:∀k,f2 k=f2' k):jV e0 Ee f2' gg gr gf cap n gs fo w e w':=by rw [show Ee=f1 from funext (fun k=>(c1 k).symm),show f2'=f2 from funext (fun k=>(c2 k).symm)];exact h
theorem Qa (B g i:Nat) (s:Y_) (ns:List aF) (vn vl:V_) (modes down:Int) (hn:ns.length<=100000) (gg gf cap:Nat) (gs:List Nat) (fo fo2 fo3:Nat->Nat->Bool) (T:Nat->Bool) (p l rr:Nat) (e0 e1:Bool) (f1 f2 h1 h2:Nat->Bool) (w:W_) (hd:Dr B g s i ns vn vl modes down w) (hf:Gf w gg g gf cap ns.length gs fo) (hx:ns[p]?=some ⟨3,l,rr,T⟩)
  (Kz:∀W,Dr B g s i ns vn vl modes down W->Gf W gg g gf cap ns.length gs fo->C_ 96 #[p_ gg,I_ l] W (jV e0 f1 f2 gg g gf cap ns.length gs fo2 W))
  (KC:∀W,Dr B g s i ns vn vl modes down W->Gf W gg g gf cap ns.length gs fo2->C_ 96 #[p_ gg,I_ rr] W (jV e1 h1 h2 gg g gf cap ns.length gs fo3 W)) :
  C_ 96 #[p_ gg,I_ p] w (jV (e0 || e1) (fun k=>f1 k || h1 k) (fun k=>f2 k || h2 k) gg g gf cap ns.length gs fo3 w):=by
 obtain⟨gn,Cj,rfl,hr⟩:=(hd.below (iX w)).get hx;have hm:p<ns.length:=(ge_.1 hx).1;have aS:=jg p;have i1:(p:Int)<ns.length:=by omega
 have M1:=bK (MF.new hd hf ⟨3,l,rr,T⟩);have C0:Hid ((Dc w).cell? (a_ gg 0)=some (p_ g)):=bM (j:=0) (hf.below (iX w)).b rfl;have C1:Hid ((Dc w).cell? (a_ g 1)=some (s_ gn ns.length Cj)):=bM (j:=1) (hd.below (iX w)).rb rfl;have HR:=bK hr;have CA:=bK Kz;have CB:=bK KC;clear hr hd hx hf Kz KC;go_enter Tryz.func96,Tryz.ntmps96;go_upto_region 1 with (fail)
 rw [show w.alloc (c_ #[.bool false,n_,n_] 205)=Dc w from rfl];generalize Dc w=W0 at *;generalize hq:w.heap.size=r at *;have c0:W0.cell? (a_ gg 0)=some (p_ g):=C0.o;have c1:W0.cell? (a_ g 1)=some (s_ gn ns.length Cj):=C1.o;have zv:=mg;clear C0 C1;go_upto_region 2 with (first | (refine wl_ rfl 161 (.tmp 21) rfl gn (p*259) rfl _ _ HR.o Tryz.underlying161 rfl iq ?_) | (refine ws_ rfl 161 (.tmp 5) (.tmp 22) rfl W0.heap.size 0 (dN ⟨3,l,rr,T⟩).toArray rfl rfl (iY _) (lY _) (oc_ (iO _)) ?_))
 clear c0 c1 zv HR;rw [show (W0.alloc (c_ xX.toArray 161)).setCells W0.heap.size 0 (dN ⟨3,l,rr,T⟩)=lH W0 ⟨3,l,rr,T⟩ from rfl];generalize lH W0 ⟨3,l,rr,T⟩=W1 at *;generalize W0.heap.size=gx at *;have c0:=bP 0 M1.o.gf.b rfl;have c1:=bP 1 M1.o.dr.rb rfl;have y0:W1.cell? (a_ gx 0)=some (I_ 3):=bM (j:=0) M1.o.nd rfl;have y1:W1.cell? (a_ gx 1)=some (I_ l):=bM (j:=1) M1.o.nd rfl;have d1:decide ((3:Int)=1)=false:=dn_ (by omega);have d2:=mM (3:Int) (3:Int)
 go_wp2_with fail
 refine (CA.o _ M1.o.dr M1.o.gf).mono ?_
 clear CA c0 c1 y0 y1;rintro e w2 ⟨ga,gb,rfl,hk2,hf2,la,lb,ba,bb⟩;have M2:=bK ((M1.o.on hk2 hf2).below (jo w2 e0 (cZ ga ns.length) (cZ gb ns.length)));have A2:Hid (MA w gs ns.length w2.heap.size ga gb e0 f1 f2 (yY w2 e0 (cZ ga ns.length) (cZ gb ns.length))):=by have h1:=M1.o.gk.size;have hb:=jo w2 e0 (cZ ga ns.length) (cZ gb ns.length);exact⟨uY _ _ _ _,bN ba hb (bO ba),bN bb hb (bO bb),by omega,by omega,by have:=hk2.size;omega⟩
 have NE:Hid (r≠w2.heap.size):=by have:=bO M1.o.aY;have:=hk2.size;intro e;omega
 clear hk2 hf2 la lb ba bb M1;go_upto_region 9 with (fail)
 rw [show w2.alloc (c_ #[.bool e0,cZ ga ns.length,cZ gb ns.length] 205)=yY w2 e0 (cZ ga ns.length) (cZ gb ns.length) from rfl];generalize yY w2 e0 (cZ ga ns.length) (cZ gb ns.length)=W3 at *;generalize w2.heap.size=gA at *;have hup:=M2.o.up;have y0:W3.cell? (a_ gx 0)=some (I_ 3):=bM (j:=0) M2.o.nd rfl;have y2:W3.cell? (a_ gx 2)=some (I_ rr):=bM (j:=2) M2.o.nd rfl
 go_wp2_with fail
 refine (CB.o _ M2.o.dr M2.o.gf).mono ?_
 clear CB y0 y2;rintro e w4 ⟨gc,gd,rfl,hk4,SH,lc,ld,bc,bd⟩;have M5:=bK ((M2.o.on hk4 SH).below (jo w4 e1 (cZ gc ns.length) (cZ gd ns.length)));have A5:=bK ((A2.o.on hup hk4).below (jo w4 e1 (cZ gc ns.length) (cZ gd ns.length)));have B5:Hid (MA w gs ns.length w4.heap.size gc gd e1 h1 h2 (yY w4 e1 (cZ gc ns.length) (cZ gd ns.length))):=by have k1:=M2.o.gk.size;have hb:=jo w4 e1 (cZ gc ns.length) (cZ gd ns.length);exact⟨uY _ _ _ _,bN bc hb (bO bc),bN bd hb (bO bd),by omega,by omega,by have:=hk4.size;omega⟩
 clear hk4 SH lc ld bc bd M2 A2;go_upto_region 15 with (fail)
 rw [show w4.alloc (c_ #[.bool e1,cZ gc ns.length,cZ gd ns.length] 205)=yY w4 e1 (cZ gc ns.length) (cZ gd ns.length) from rfl];generalize yY w4 e1 (cZ gc ns.length) (cZ gd ns.length)=W5 at *;generalize w4.heap.size=gB at *;have y0:W5.cell? (a_ gx 0)=some (I_ 3):=bM (j:=0) M5.o.nd rfl;have a0:=bP 0 A5.o.ma rfl;have a1:=bP 1 A5.o.ma rfl;have a2:=bP 2 A5.o.ma rfl;have b0:=bP 0 B5.o.ma rfl;have b1:=bP 1 B5.o.ma rfl;have b2:=bP 2 B5.o.ma rfl
 go_wp2_with fail
 refine (uu ns.length ga gc f1 h1 W5 A5.o.aP B5.o.aP hn).mono ?_
 rintro e w6 ⟨g1,rfl,hb6,l6,b6⟩;have M6:=bK (M5.o.below hb6);have A6:=bK (A5.o.below hb6);have B6:=bK (B5.o.below hb6);have L6:Hid (w.heap.size<=g1):=by have:=M5.o.gk.size;show _<=_;omega
 have C6:=bK b6;clear hb6 l6 b6 M5 A5 B5 y0 a0 a1 a2 b0 b1 b2;have y0:w6.cell? (a_ gx 0)=some (I_ 3):=bM (j:=0) M6.o.nd rfl;have a0:=bP 0 A6.o.ma rfl;have a1:=bP 1 A6.o.ma rfl;have a2:=bP 2 A6.o.ma rfl;have b0:=bP 0 B6.o.ma rfl;have b1:=bP 1 B6.o.ma rfl;have b2:=bP 2 B6.o.ma rfl
 go_wp2_with fail
 refine (uu ns.length gb gd f2 h2 w6 A6.o.aQ B6.o.aQ hn).mono ?_
 rintro e w7 ⟨g2,rfl,hb7,l7,b7⟩;have M7:=bK (M6.o.below hb7);have A7:=bK (A6.o.below hb7);have B7:=bK (B6.o.below hb7);have L7:Hid (w.heap.size<=g2):=by have:=M6.o.gk.size;show _<=_;omega
 have C7:=bK (bN C6.o hb7 (bO C6.o));have D7:=bK b7;clear hb7 l7 b7 M6 A6 B6 C6 y0 a0 a1 a2 b0 b1 b2;have y0:w7.cell? (a_ gx 0)=some (I_ 3):=bM (j:=0) M7.o.nd rfl;have a0:=bP 0 A7.o.ma rfl;have a1:=bP 1 A7.o.ma rfl;have a2:=bP 2 A7.o.ma rfl;have b0:=bP 0 B7.o.ma rfl;have b1:=bP 1 B7.o.ma rfl;have b2:=bP 2 B7.o.ma rfl;have z0:=bP 0 M7.o.aY rfl;have z1:=bP 1 M7.o.aY rfl;have z2:=bP 2 M7.o.aY rfl;have aY:=bL M7.o.aY 0;have r1:=bL M7.o.aY 1;have r2:=bL M7.o.aY 2;have FIN:=bK (fun e=>AZ M7.o.gk M7.o.gf M7.o.up M7.o.aY M7.o.lr L6.o L7.o C7.o D7.o e);clear M7 A7 B7 C7 D7
 cases e0 with
 | true=>go_wp2;exact br_ (by simp [results,Tryz.results96,asAddr,(FIN.o true).1]) rfl (FIN.o true).2
 | false=>go_wp2;exact br_ (by simp [results,Tryz.results96,asAddr,(FIN.o e1).1]) rfl (FIN.o e1).2
theorem Qc (B g i:Nat) (s:Y_) (ns:List aF) (vn vl:V_) (modes down:Int) (hn:ns.length<=100000) (gg gf cap:Nat) (gs:List Nat) (fo fo2 fo3:Nat->Nat->Bool) (T:Nat->Bool) (p l rr:Nat) (e0 e1:Bool) (f1 f2 h1 h2:Nat->Bool) (w:W_) (hd:Dr B g s i ns vn vl modes down w) (hf:Gf w gg g gf cap ns.length gs fo) (hx:ns[p]?=some ⟨2,l,rr,T⟩)
  (Kz:∀W,Dr B g s i ns vn vl modes down W->Gf W gg g gf cap ns.length gs fo->C_ 96 #[p_ gg,I_ l] W (jV e0 f1 f2 gg g gf cap ns.length gs fo2 W))
  (KC:∀W,Dr B g s i ns vn vl modes down W->Gf W gg g gf cap ns.length gs fo2->C_ 96 #[p_ gg,I_ rr] W (jV e1 h1 h2 gg g gf cap ns.length gs fo3 W)) :
  C_ 96 #[p_ gg,I_ p] w (jV (e0 && e1) (fun k=>f1 k || (e0 && h1 k)) (fun k=>h2 k || (e1 && f2 k)) gg g gf cap ns.length gs (fun a c=>fo3 a c || (f2 a && h1 c)) w):=by
 obtain⟨gn,Cj,rfl,hr⟩:=(hd.below (iX w)).get hx;have hm:p<ns.length:=(ge_.1 hx).1;have aS:=jg p;have i1:(p:Int)<ns.length:=by omega
 have M1:=bK (MF.new hd hf ⟨2,l,rr,T⟩);have C0:Hid ((Dc w).cell? (a_ gg 0)=some (p_ g)):=bM (j:=0) (hf.below (iX w)).b rfl;have C1:Hid ((Dc w).cell? (a_ g 1)=some (s_ gn ns.length Cj)):=bM (j:=1) (hd.below (iX w)).rb rfl;have HR:=bK hr;have CA:=bK Kz;have CB:=bK KC;clear hr hd hx hf Kz KC;go_enter Tryz.func96,Tryz.ntmps96;go_upto_region 1 with (fail)
 rw [show w.alloc (c_ #[.bool false,n_,n_] 205)=Dc w from rfl];generalize Dc w=W0 at *;generalize hq:w.heap.size=r at *;have c0:W0.cell? (a_ gg 0)=some (p_ g):=C0.o;have c1:W0.cell? (a_ g 1)=some (s_ gn ns.length Cj):=C1.o;have zv:=mg;clear C0 C1;go_upto_region 2 with (first | (refine wl_ rfl 161 (.tmp 21) rfl gn (p*259) rfl _ _ HR.o Tryz.underlying161 rfl iq ?_) | (refine ws_ rfl 161 (.tmp 5) (.tmp 22) rfl W0.heap.size 0 (dN ⟨2,l,rr,T⟩).toArray rfl rfl (iY _) (lY _) (oc_ (iO _)) ?_))
 clear c0 c1 zv HR;rw [show (W0.alloc (c_ xX.toArray 161)).setCells W0.heap.size 0 (dN ⟨2,l,rr,T⟩)=lH W0 ⟨2,l,rr,T⟩ from rfl];generalize lH W0 ⟨2,l,rr,T⟩=W1 at *;generalize W0.heap.size=gx at *;have c0:=bP 0 M1.o.gf.b rfl;have c1:=bP 1 M1.o.dr.rb rfl;have y0:W1.cell? (a_ gx 0)=some (I_ 2):=bM (j:=0) M1.o.nd rfl;have y1:W1.cell? (a_ gx 1)=some (I_ l):=bM (j:=1) M1.o.nd rfl;have d1:decide ((2:Int)=1)=false:=dn_ (by omega);have d2:=mM (3:Int) (2:Int)
 go_wp2_with fail
 refine (CA.o _ M1.o.dr M1.o.gf).mono ?_
 clear CA c0 c1 y0 y1;rintro e w2 ⟨ga,gb,rfl,hk2,hf2,la,lb,ba,bb⟩;have M2:=bK ((M1.o.on hk2 hf2).below (jo w2 e0 (cZ ga ns.length) (cZ gb ns.length)));have A2:Hid (MA w gs ns.length w2.heap.size ga gb e0 f1 f2 (yY w2 e0 (cZ ga ns.length) (cZ gb ns.length))):=by have h1:=M1.o.gk.size;have hb:=jo w2 e0 (cZ ga ns.length) (cZ gb ns.length);exact⟨uY _ _ _ _,bN ba hb (bO ba),bN bb hb (bO bb),by omega,by omega,by have:=hk2.size;omega⟩
 have NE:Hid (r≠w2.heap.size):=by have:=bO M1.o.aY;have:=hk2.size;intro e;omega
 clear hk2 hf2 la lb ba bb M1;go_upto_region 9 with (fail)
 rw [show w2.alloc (c_ #[.bool e0,cZ ga ns.length,cZ gb ns.length] 205)=yY w2 e0 (cZ ga ns.length) (cZ gb ns.length) from rfl];generalize yY w2 e0 (cZ ga ns.length) (cZ gb ns.length)=W3 at *;generalize w2.heap.size=gA at *;have hup:=M2.o.up;have y0:W3.cell? (a_ gx 0)=some (I_ 2):=bM (j:=0) M2.o.nd rfl;have y2:W3.cell? (a_ gx 2)=some (I_ rr):=bM (j:=2) M2.o.nd rfl
 go_wp2_with fail
 refine (CB.o _ M2.o.dr M2.o.gf).mono ?_
 clear CB y0 y2;rintro e w4 ⟨gc,gd,rfl,hk4,SH,lc,ld,bc,bd⟩;have M5:=bK ((M2.o.on hk4 SH).below (jo w4 e1 (cZ gc ns.length) (cZ gd ns.length)));have A5:=bK ((A2.o.on hup hk4).below (jo w4 e1 (cZ gc ns.length) (cZ gd ns.length)));have B5:Hid (MA w gs ns.length w4.heap.size gc gd e1 h1 h2 (yY w4 e1 (cZ gc ns.length) (cZ gd ns.length))):=by have k1:=M2.o.gk.size;have hb:=jo w4 e1 (cZ gc ns.length) (cZ gd ns.length);exact⟨uY _ _ _ _,bN bc hb (bO bc),bN bd hb (bO bd),by omega,by omega,by have:=hk4.size;omega⟩
 clear hk4 SH lc ld bc bd M2 A2;go_upto_region 15 with (fail)
 rw [show w4.alloc (c_ #[.bool e1,cZ gc ns.length,cZ gd ns.length] 205)=yY w4 e1 (cZ gc ns.length) (cZ gd ns.length) from rfl];generalize yY w4 e1 (cZ gc ns.length) (cZ gd ns.length)=W5 at *;generalize w4.heap.size=gB at *;have y0:W5.cell? (a_ gx 0)=some (I_ 2):=bM (j:=0) M5.o.nd rfl;have a0:=bP 0 A5.o.ma rfl;have a1:=bP 1 A5.o.ma rfl;have a2:=bP 2 A5.o.ma rfl;have b0:=bP 0 B5.o.ma rfl;have b1:=bP 1 B5.o.ma rfl;have b2:=bP 2 B5.o.ma rfl
 go_wp2_with fail
 refine (yE gg g gf cap ns.length gb gc gs fo3 f2 h1 W5 M5.o.gf A5.o.aQ B5.o.aP (A5.o.nb hup) (B5.o.na hup) hn).mono ?_
 rintro e w6 ⟨rfl,hk6,hf6⟩;have E6:Hid (w.heap.size<=w6.heap.size/\r<w6.heap.size/\ga<w6.heap.size):=by have:=hk6.size;have:=M5.o.gk.size;have:=bO M5.o.aY;have:=bO A5.o.aP;exact⟨by omega,by omega,by omega⟩
 have hbw:=jo w6 (e0 && e1) (cZ ga ns.length) (cZ gd ns.length);have M6:=bK (M5.o.on hk6 hf6);have A6:=bK (A5.o.on hup hk6);have B6:=bK (B5.o.on hup hk6);have M7:=bK (M6.o.below hbw);have A7:=bK (A6.o.below hbw);have B7:=bK (B6.o.below hbw);have K7:Hid (dh (yY w6 (e0 && e1) (cZ ga ns.length) (cZ gd ns.length)) w6.heap.size 205 (Xd (e0 && e1) (cZ ga ns.length) (cZ gd ns.length))):=uY _ _ _ _;clear hk6 hf6 hbw M5 A5 B5 y0 a0 a1 a2 b0 b1 b2;have y0:w6.cell? (a_ gx 0)=some (I_ 2):=bM (j:=0) M6.o.nd rfl;have a0:=bP 0 A6.o.ma rfl;have a1:=bP 1 A6.o.ma rfl;have a2:=bP 2 A6.o.ma rfl;have b0:=bP 0 B6.o.ma rfl;have b1:=bP 1 B6.o.ma rfl;have b2:=bP 2 B6.o.ma rfl;have NAM:Hid (gA≠w6.heap.size):=by have:=bO A6.o.ma;intro e;omega
 have NBM:Hid (gB≠w6.heap.size):=by have:=bO B6.o.ma;intro e;omega
 have LR:Hid (w.heap.size<=r):=M6.o.lr;have LD:Hid (w.heap.size<=gd):=B6.o.lb;clear M6 A6 B6
 cases e0 with
 | true=>
  cases e1 with
  | true=>?_
  | false=>?_
  focus
   go_upto_region 21 with (fail);rw [show w6.alloc (c_ #[.bool true,cZ ga ns.length,cZ gd ns.length] 205)=yY w6 (true && true) (cZ ga ns.length) (cZ gd ns.length) from rfl];generalize yY w6 (true && true) (cZ ga ns.length) (cZ gd ns.length)=W7 at *
  rotate_left
  focus
   go_upto_region 21 with (fail);rw [show w6.alloc (c_ #[.bool false,cZ ga ns.length,cZ gd ns.length] 205)=yY w6 (true && false) (cZ ga ns.length) (cZ gd ns.length) from rfl];generalize yY w6 (true && false) (cZ ga ns.length) (cZ gd ns.length)=W7 at *
  rotate_left
  all_goals
   generalize w6.heap.size=gM at *;clear y0 a0 a1 a2 b0 b1 b2;have a0:=bP 0 A7.o.ma rfl;have a1:=bP 1 A7.o.ma rfl;have a2:=bP 2 A7.o.ma rfl;have b0:=bP 0 B7.o.ma rfl;have b1:=bP 1 B7.o.ma rfl;have b2:=bP 2 B7.o.ma rfl;have m0:=bP 0 K7.o rfl;have m1:=bP 1 K7.o rfl;have m2:=bP 2 K7.o rfl;have q1:=bL K7.o 1;have q2:=bL K7.o 2
   go_wp2_with fail
   refine (uu ns.length ga gc f1 h1 W7 A7.o.aP B7.o.aP hn).mono ?_
   rintro e w8 ⟨g1,rfl,hb8,l8,b8⟩;have L8:Hid (w.heap.size<=g1):=by have:=M7.o.gk.size;show _<=_;omega
   have N8:=bK (show gM≠g1 by have:=bO K7.o;omega);have M8:=bK (M7.o.below hb8);have A8:=bK (A7.o.below hb8);have B8:=bK (B7.o.below hb8);have g8:=gs_ w8 gM 1 (cZ g1 ns.length);have K8':=bK (bN K7.o hb8 (bO K7.o))
  focus have K8:Hid (dh (w8.setCell (a_ gM 1) (cZ g1 ns.length)) gM 205 (Xd (true && true) (cZ g1 ns.length) (cZ gd ns.length))):=cO K8'.o 1 _
  rotate_left
  focus have K8:Hid (dh (w8.setCell (a_ gM 1) (cZ g1 ns.length)) gM 205 (Xd (true && false) (cZ g1 ns.length) (cZ gd ns.length))):=cO K8'.o 1 _
  rotate_left
  all_goals
   have aV:gM∉gs:=fun k=>by have:=hup _ k;have:=E6.o.1;omega
   have R8:Hid (dh (w8.setCell (a_ gM 1) (cZ g1 ns.length)) r 205 (Xd false n_ n_)):=bQ M8.o.aY g8 (fun e=>by have:=oi_ e;have:=E6.o.2.1;omega);have X8:Hid (Gk gs w (w8.setCell (a_ gM 1) (cZ g1 ns.length))/\Gf (w8.setCell (a_ gM 1) (cZ g1 ns.length)) gg g gf cap ns.length gs (fun i k=>fo3 i k || (f2 i && h1 k))):=⟨M8.o.gk.Aw g8 E6.o.1,M8.o.gf.o K8'.o (by decide) (by decide) g8 aV⟩;have P8:Hid (Bl (w8.setCell (a_ gM 1) (cZ g1 ns.length)) g1 ns.length (fun k=>f1 k || h1 k)/\Bl (w8.setCell (a_ gM 1) (cZ g1 ns.length)) gb ns.length f2/\Bl (w8.setCell (a_ gM 1) (cZ g1 ns.length)) gd ns.length h2):=⟨bQ b8 g8 (fun e=>dD b8 K8'.o (by decide) (oi_ e)),bQ A8.o.aQ g8 (fun e=>dD A8.o.aQ K8'.o (by decide) (oi_ e)),bQ B8.o.aQ g8 (fun e=>dD B8.o.aQ K8'.o (by decide) (oi_ e))⟩;have QA:Hid (dh (w8.setCell (a_ gM 1) (cZ g1 ns.length)) gA 205 (Xd true (cZ ga ns.length) (cZ gb ns.length))):=bQ A8.o.ma g8 (fun e=>NAM.o (oi_ e))
  focus have QB:Hid (dh (w8.setCell (a_ gM 1) (cZ g1 ns.length)) gB 205 (Xd true (cZ gc ns.length) (cZ gd ns.length))):=bQ B8.o.ma g8 (fun e=>NBM.o (oi_ e))
  rotate_left
  focus have QB:Hid (dh (w8.setCell (a_ gM 1) (cZ g1 ns.length)) gB 205 (Xd false (cZ gc ns.length) (cZ gd ns.length))):=bQ B8.o.ma g8 (fun e=>NBM.o (oi_ e))
  rotate_left
  all_goals
   have q8:=bL K8'.o 1;have k81:=bP 1 K8'.o rfl;clear a0 a1 a2 b0 b1 b2 m0 m1 m2 q1 q2 hb8 l8 b8 M7 A7 B7 K7 M8 A8 B8 K8' g8;go_upto_region 23 with (fail);generalize w8.setCell (a_ gM 1) (cZ g1 ns.length)=W9 at *;clear q8 k81;have a0:=bP 0 QA.o rfl;have a1:=bP 1 QA.o rfl;have a2:=bP 2 QA.o rfl;have b0:=bP 0 QB.o rfl;have b1:=bP 1 QB.o rfl;have b2:=bP 2 QB.o rfl
  .go_wp2_with fail
   refine (uu ns.length gb gd f2 h2 W9 P8.o.2.1 P8.o.2.2 hn).mono ?_
   rintro e w10 ⟨g2,rfl,Az,l10,b10⟩;have L10:Hid (w.heap.size<=g2):=by have:=X8.o.1.size;show _<=_;omega
   have Ud:=bK (bN K8.o Az (bO K8.o));have KQ:=bK (bN R8.o Az (bO R8.o));have F10:=bK (bN P8.o.1 Az (bO P8.o.1));have g10:=gs_ w10 gM 2 (cZ g2 ns.length);have FIN:=bK (Tg (X8.o.1.trans (.below Az)) (X8.o.2.below Az) hup KQ.o LR.o L8.o L10.o F10.o b10 Ud.o E6.o.1 (by have:=E6.o.2.1;omega) g10 true);have m0:=bP 0 Ud.o rfl;have m1:=bP 1 Ud.o rfl;have m2:=bP 2 Ud.o rfl;have q2:=bL Ud.o 2;have z0:=bP 0 KQ.o rfl;have z1:=bP 1 KQ.o rfl;have z2:=bP 2 KQ.o rfl;have aY:=bL KQ.o 0;have r1:=bL KQ.o 1;have r2:=bL KQ.o 2;have ne1:r≠gM:=by have:=E6.o.2.1;omega
   have yZ:gM≠r:=fun e=>ne1 e.symm
   clear a0 a1 a2 b0 b1 b2 Az l10 b10 K8 R8 P8 X8 Ud KQ F10 g10 QA QB;go_wp2;exact br_ (by simp [results,Tryz.results96,asAddr,FIN.o.1]) rfl (jV.congr FIN.o.2 (fun k=>by simp) (fun k=>by simp [Bool.or_comm]))
  .have FIN:=bK (AZ X8.o.1 X8.o.2 hup R8.o LR.o L8.o LD.o P8.o.1 P8.o.2.2 false);have m0:=bP 0 K8.o rfl;have m1:=bP 1 K8.o rfl;have m2:=bP 2 K8.o rfl;have z0:=bP 0 R8.o rfl;have z1:=bP 1 R8.o rfl;have z2:=bP 2 R8.o rfl;have aY:=bL R8.o 0;have r1:=bL R8.o 1;have r2:=bL R8.o 2;clear K8 R8 P8 X8 QA QB;go_wp2;exact br_ (by simp [results,Tryz.results96,asAddr,FIN.o.1]) rfl (jV.congr FIN.o.2 (fun k=>by simp) (fun k=>by simp))
 | false=>
  cases e1 with
  | true=>?_
  | false=>?_
  focus
   go_upto_region 21 with (fail);rw [show w6.alloc (c_ #[.bool false,cZ ga ns.length,cZ gd ns.length] 205)=yY w6 (false && true) (cZ ga ns.length) (cZ gd ns.length) from rfl];generalize yY w6 (false && true) (cZ ga ns.length) (cZ gd ns.length)=W7 at *
  rotate_left
  focus
   go_upto_region 21 with (fail);rw [show w6.alloc (c_ #[.bool false,cZ ga ns.length,cZ gd ns.length] 205)=yY w6 (false && false) (cZ ga ns.length) (cZ gd ns.length) from rfl];generalize yY w6 (false && false) (cZ ga ns.length) (cZ gd ns.length)=W7 at *
  rotate_left
  all_goals
   generalize w6.heap.size=gM at *;clear y0 a0 a1 a2 b0 b1 b2;have a0:=bP 0 A7.o.ma rfl;have a1:=bP 1 A7.o.ma rfl;have a2:=bP 2 A7.o.ma rfl;have b0:=bP 0 B7.o.ma rfl;have b1:=bP 1 B7.o.ma rfl;have b2:=bP 2 B7.o.ma rfl;have m0:=bP 0 K7.o rfl;have m1:=bP 1 K7.o rfl;have m2:=bP 2 K7.o rfl;have q1:=bL K7.o 1;have q2:=bL K7.o 2;have P8:Hid (Bl W7 ga ns.length f1/\Bl W7 gb ns.length f2/\Bl W7 gd ns.length h2):=⟨A7.o.aP,A7.o.aQ,B7.o.aQ⟩;have R8:=bK M7.o.aY;have X8:=bK (And.intro M7.o.gk M7.o.gf);have QA:=bK A7.o.ma;have QB:=bK B7.o.ma;have K8:=bK K7.o;have L8:=bK A7.o.la;go_upto_region 23 with (fail);clear a0 a1 a2 b0 b1 b2 m0 m1 m2 q1 q2 M7 A7 B7 K7;generalize W7=W9 at *;have a0:=bP 0 QA.o rfl;have a1:=bP 1 QA.o rfl;have a2:=bP 2 QA.o rfl;have b0:=bP 0 QB.o rfl;have b1:=bP 1 QB.o rfl;have b2:=bP 2 QB.o rfl
  .go_wp2_with fail
   refine (uu ns.length gb gd f2 h2 W9 P8.o.2.1 P8.o.2.2 hn).mono ?_
   rintro e w10 ⟨g2,rfl,Az,l10,b10⟩;have L10:Hid (w.heap.size<=g2):=by have:=X8.o.1.size;show _<=_;omega
   have Ud:=bK (bN K8.o Az (bO K8.o));have KQ:=bK (bN R8.o Az (bO R8.o));have F10:=bK (bN P8.o.1 Az (bO P8.o.1));have g10:=gs_ w10 gM 2 (cZ g2 ns.length);have FIN:=bK (Tg (X8.o.1.trans (.below Az)) (X8.o.2.below Az) hup KQ.o LR.o L8.o L10.o F10.o b10 Ud.o E6.o.1 (by have:=E6.o.2.1;omega) g10 false);have m0:=bP 0 Ud.o rfl;have m1:=bP 1 Ud.o rfl;have m2:=bP 2 Ud.o rfl;have q2:=bL Ud.o 2;have z0:=bP 0 KQ.o rfl;have z1:=bP 1 KQ.o rfl;have z2:=bP 2 KQ.o rfl;have aY:=bL KQ.o 0;have r1:=bL KQ.o 1;have r2:=bL KQ.o 2;have ne1:r≠gM:=by have:=E6.o.2.1;omega
   have yZ:gM≠r:=fun e=>ne1 e.symm
   clear a0 a1 a2 b0 b1 b2 Az l10 b10 K8 R8 P8 X8 Ud KQ F10 g10 QA QB;go_wp2;exact br_ (by simp [results,Tryz.results96,asAddr,FIN.o.1]) rfl (jV.congr FIN.o.2 (fun k=>by simp) (fun k=>by simp [Bool.or_comm]))
  .have FIN:=bK (AZ X8.o.1 X8.o.2 hup R8.o LR.o L8.o LD.o P8.o.1 P8.o.2.2 false);have m0:=bP 0 K8.o rfl;have m1:=bP 1 K8.o rfl;have m2:=bP 2 K8.o rfl;have z0:=bP 0 R8.o rfl;have z1:=bP 1 R8.o rfl;have z2:=bP 2 R8.o rfl;have aY:=bL R8.o 0;have r1:=bL R8.o 1;have r2:=bL R8.o 2;clear K8 R8 P8 X8 QA QB;go_wp2;exact br_ (by simp [results,Tryz.results96,asAddr,FIN.o.1]) rfl (jV.congr FIN.o.2 (fun k=>by simp) (fun k=>by simp))
end Go.Proofs.YtmccnmgaoppogaaGreat
