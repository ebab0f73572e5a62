import Derived.Test.YtmccnmgaoppogaaGreatKal
namespace Go.Proofs.YtmccnmgaoppogaaGreat
open Pu
set_option linter.all false
set_option maxRecDepth 100000
set_option maxHeartbeats 8000000
open Go.RowKit
variable {W:W_} {cf cl g mf nl:Nat} {act em md mode:Int} {dn:Bool} {af al:Option Addr}
theorem xK {w W':W_} {g':Nat} (h:w.grownBy W (some g)) (h2:W.grownBy W' (some g')) (hl:w.heap.size<=g'):w.grownBy W' (some g):=
 ⟨h2.os.trans h.os,h2.tape.trans h.tape,h2.output.trans h.output,lt_ h.size h2.size,fun k hk hne=>(h2.block k (Nat.lt_of_lt_of_le hk h.size) (fun e=>by cases e;omega)).trans (h.block k hk hne)⟩
theorem Ez (g i:Nat) (s:Y_) (vp:V_) (d:Bool) (w:W_) (h:Rb w g s i vp d) (hi:i<=1000000) :
  C_ 139 #[p_ g] w (fun e w'=>(fF (Pu.dG s i)/\jR (.tuple #[I_ (Pu.dG s i-97),.bool true]) g s (i+1) vp d w e w')\/(¬fF (Pu.dG s i)/\jR (.tuple #[I_ 0,.bool false]) g s i vp d w e w')):=by
 have PK:=bK (lJ g i s vp d w h);have H0:=bK h;have bd:=Qt s i;clear h;generalize Pu.dG s i=b at *;have ws:=xF (b-97);by_cases hl:fF b
 .have FIN:Hid (∀e w',jR (.tuple #[I_ (b-97),.bool true]) g s (i+1) vp d w e w'->(fF b/\jR (.tuple #[I_ (b-97),.bool true]) g s (i+1) vp d w e w')\/(¬fF b/\jR (.tuple #[I_ 0,.bool false]) g s i vp d w e w')):=fun e w' k=>.inl ⟨hl,k⟩
  unfold fF at hl;have d1:decide (b-97<0)=false:=dn_ (by omega);have d2:decide (4<=b-97)=false:=dn_ (by omega);clear hl;go_enter Tryz.func139,Tryz.ntmps139
  go_wp2_with fail
  refine PK.o.mono ?_
  clear PK;rintro e w1 ⟨rfl,hb1⟩;have H1:=bK (H0.o.below hb1);have G1:=bK (jK (some g) hb1);clear hb1 H0;have c1:=bP 1 H1.o rfl;have f1:=bL H1.o 1;have wi:=kg i;have N1:=bK (H1.o.at (i+1));go_wp2
  go_ret2
  exact FIN.o _ _ ⟨rfl,G1.o.trans (gs_ _ g 1 _),N1.o⟩
 .have FIN:Hid (∀e w',jR (.tuple #[I_ 0,.bool false]) g s i vp d w e w'->(fF b/\jR (.tuple #[I_ (b-97),.bool true]) g s (i+1) vp d w e w')\/(¬fF b/\jR (.tuple #[I_ 0,.bool false]) g s i vp d w e w')):=fun e w' k=>.inr ⟨hl,k⟩
  unfold fF at hl
  cases d1:decide (b-97<0) with
  | true=>?_
  | false=>?_
  focus clear hl
  rotate_left
  focus
   have d1':=of_decide_eq_false d1;have d2:decide (4<=b-97)=true:=dt_ (by omega);clear hl d1'
  all_goals
   go_enter Tryz.func139,Tryz.ntmps139
   go_wp2_with fail
   refine PK.o.mono ?_
   clear PK;rintro e w1 ⟨rfl,hb1⟩;have H1:=bK (H0.o.below hb1);have G1:=bK (jK (some g) hb1);clear hb1 H0;go_wp2
   go_ret2
   exact FIN.o _ _ ⟨rfl,G1.o,H1.o⟩
structure Ae (g:Nat) (s:Y_) (j:Nat) (vp:V_) (d:Bool) (w:W_) (gR gV:Nat) (e c m:Int) (W:W_):Prop where
 rb:Rb W g s j vp d
 gr:w.grownBy W (some g)
 r:dh W gR 59 [I_ 0,I_ 0,I_ 0]
 v:dh W gV 59 [I_ e,I_ c,I_ m]
 ap:gR≠gV/\w.heap.size<=gR/\w.heap.size<=gV
section
variable {g:Nat} {s:Y_} {j j':Nat} {vp:V_} {d d':Bool} {w:W_} {gR gV:Nat} {e c m:Int} {W W':W_}
theorem Ae.below (h:Ae g s j vp d w gR gV e c m W) (hb:B_ W W'):Ae g s j vp d w gR gV e c m W':=
 ⟨h.rb.below hb,Lib.grownBy_below h.gr hb,bN h.r hb (bO h.r),bN h.v hb (bO h.v),h.ap⟩
theorem Ae.eP (h:Ae g s j vp d w gR gV e c m W) (hg:W.grownBy W' (some g)) (hr:Rb W' g s j' vp d'):Ae g s j' vp d' w gR gV e c m W':=
 ⟨hr,h.gr.trans hg,bQ h.r hg (fun k=>dD h.r h.rb (by decide) (oi_ k)),bQ h.v hg (fun k=>dD h.v h.rb (by decide) (oi_ k)),h.ap⟩
theorem Ae.akK (h:Ae g s j vp d w gR gV e c m W) (x:Int):Ae g s j vp d w gR gV x c m (W.setCell (a_ gV 0) (I_ x)):=
 ⟨dB h.rb (dD h.rb h.v (by decide)) _ _,xK h.gr (gs_ _ _ _ _) h.ap.2.2,dB h.r h.ap.1 _ _,cO h.v 0 _,h.ap⟩
theorem Ae.We (h:Ae g s j vp d w gR gV e c m W) (x:Int):Ae g s j vp d w gR gV e x m (W.setCell (a_ gV 1) (I_ x)):=
 ⟨dB h.rb (dD h.rb h.v (by decide)) _ _,xK h.gr (gs_ _ _ _ _) h.ap.2.2,dB h.r h.ap.1 _ _,cO h.v 1 _,h.ap⟩
theorem Ae.xZ (h:Ae g s j vp d w gR gV e c m W) (x:Int):Ae g s j vp d w gR gV e c x (W.setCell (a_ gV 2) (I_ x)):=
 ⟨dB h.rb (dD h.rb h.v (by decide)) _ _,xK h.gr (gs_ _ _ _ _) h.ap.2.2,dB h.r h.ap.1 _ _,cO h.v 2 _,h.ap⟩
theorem V8 {a b c:V_} (h:dh W g 59 [a,b,c]):(loadVar 59 (a_ g 0)).run Tryz.prog W=.ok (.agg #[a,b,c]) W:=
 run_loadVar_mid W g 0 59 [a,b,c] _ (dZ h) Tryz.underlying59 rfl (by kernel_rfl)
theorem Ae.fin (h:Ae g s j vp d w gR gV e c m W):(loadVar 59 (a_ gR 0)).run Tryz.prog (jO W gR (I_ e) (I_ c) (I_ m))=.ok (.agg #[I_ e,I_ c,I_ m]) (jO W gR (I_ e) (I_ c) (I_ m))/\w.grownBy (jO W gR (I_ e) (I_ c) (I_ m)) (some g)/\Rb (jO W gR (I_ e) (I_ c) (I_ m)) g s j vp d:=by have g5:=iP W gR (I_ e) (I_ c) (I_ m);exact⟨V8 (ja h.r _ _ _),xK h.gr g5 h.ap.2.1,bQ h.rb g5 (fun k=>dD h.rb h.r (by decide) (oi_ k))⟩
theorem Ae.at1 (h:Ae g s j vp d w gR gV e c m W):Ae g s (j+1) vp d w gR gV e c m (W.setCell (a_ g 1) (I_ ((j:Int)+1))):=
 h.eP (gs_ _ _ _ _) (h.rb.at (j+1))
end
def yf (g:Nat) (s:Y_) (i:Nat) (vp:V_) (d:Bool) (w:W_) (e:Ending) (w':W_):Prop:=
 (∃k em c m,Pu.Act s i k em c m/\jR (.tuple #[.agg #[I_ em,I_ c,I_ m],.bool true]) g s k vp d w e w')\/(∃k em c m,OH s i k/\jR (.tuple #[.agg #[I_ em,I_ c,I_ m],.bool false]) g s k vp d w e w')
namespace Pu
theorem nH.ne {b e:Int} (h:nH b e):b≠-1:=by unfold nH at h;omega
theorem Act.le {s:Y_} {i k:Nat} {e c m:Int} (h:Act s i k e c m):k<=s.size/\i<k:=by
 cases h with
 | plain h1 _ _ _=>exact⟨fB h1.ne,by omega⟩
 | pop _ h2=>exact⟨fB (s:=s) (i:=i+1) (by rw [h2];decide),by omega⟩
 | bG _ _ h3=>exact⟨fB (s:=s) (i:=i+2) (by unfold fF at h3;omega),by omega⟩
 | push _ _ h3=>exact⟨fB (s:=s) (i:=i+2) (by unfold fF at h3;omega),by omega⟩
end Pu
theorem OT (g i:Nat) (s:Y_) (vp:V_) (d:Bool) (w:W_) (h:Rb w g s i vp d) (hi:i<=1000) :
  C_ 141 #[p_ g] w (yf g s i vp d w):=by
 have gl:=h.lt;have A0:Hid (Ae g s i vp d w w.heap.size (w.heap.size+1) 0 0 0 ((w.alloc (c_ #[I_ 0,I_ 0,I_ 0] 59)).alloc (c_ #[I_ 0,I_ 0,I_ 0] 59))):=by have hb:=((Br_ w.heap.size w).alloc di (c_ #[I_ 0,I_ 0,I_ 0] 59)).alloc (by simp) (c_ #[I_ 0,I_ 0,I_ 0] 59);have tb:=Cc w 59 [I_ 0,I_ 0,I_ 0] [I_ 0,I_ 0,I_ 0];exact⟨h.below hb,jK _ hb,tb.1,tb.2,by omega,di,by omega⟩
 clear h;go_enter Tryz.func141,Tryz.ntmps141
 go_wp2_with fail
 generalize (w.alloc (c_ #[I_ 0,I_ 0,I_ 0] 59)).alloc (c_ #[I_ 0,I_ 0,I_ 0] 59)=W0 at *;generalize w.heap.size=gR at *;generalize gR+1=gV at *;refine (lJ g i s vp d W0 A0.o.rb).mono ?_
 rintro e w1 ⟨rfl,hb1⟩;have A1:=bK (A0.o.below hb1);clear hb1 A0;have wi:=kg i;have wi2:=xF ((i:Int)+1+1);rcases Classical.em (Pu.dG s i=101) with Mf | Mf
 .have HE:Hid (nH (Pu.dG s i) 1):=.inl ⟨Mf,rfl⟩;rw [Mf];clear Mf;have v0:=bP 0 A1.o.v rfl;have vf0:=bL A1.o.v 0;have A1':=bK (A1.o.akK 1);go_upto_region 7 with (fail);clear v0 vf0 A1;generalize w1.setCell (a_ gV 0) (I_ 1)=W1 at *;have c1:=bP 1 A1'.o.rb rfl;have f1:=bL A1'.o.rb 1;have A2:=bK A1'.o.at1
  go_wp2_with fail
  clear c1 f1 A1';generalize W1.setCell (a_ g 1) (I_ ((i:Int)+1))=W2 at *;have g1:=bO A2.o.rb;rcases Classical.em (Pu.dG s (i+1)=60) with Mg | Mg
  .have FIN:Hid (∀e w',jR (.tuple #[.agg #[I_ 1,I_ 3,I_ 0],.bool true]) g s (i+2) vp d w e w'->yf g s i vp d w e w'):=fun e w' k=>.inl ⟨i+2,_,_,_,.pop HE.o Mg,k⟩
   refine (lJ g (i+1) s vp d _ A2.o.rb).mono ?_
   rintro e w3 ⟨rfl,hb3⟩;have A3:=bK (A2.o.below hb3);clear hb3 A2;rw [Mg];clear Mg;have c1:=bP 1 A3.o.rb rfl;have f1:=bL A3.o.rb 1;have A4:Hid (Ae g s (i+2) vp d w gR gV 1 0 0 (w3.setCell (a_ g 1) (I_ ((i:Int)+1+1)))):=A3.o.at1;go_upto_region 12 with (fail);clear c1 f1 A3;generalize w3.setCell (a_ g 1) (I_ ((i:Int)+1+1))=W4 at *;have c1:=bP 1 A4.o.v rfl;have f1:=bL A4.o.v 1;have A5:=bK (A4.o.We 3);go_upto_region 13 with (fail);clear c1 f1 A4;generalize W4.setCell (a_ gV 1) (I_ 3)=W5 at *;have aY:=bP 0 A5.o.r rfl;have r1:=bP 1 A5.o.r rfl;have r2:=bP 2 A5.o.r rfl;have rf0:=bL A5.o.r 0;have rf1:=bL A5.o.r 1;have rf2:=bL A5.o.r 2;have v0:=bP 0 A5.o.v rfl;have v1:=bP 1 A5.o.v rfl;have v2:=bP 2 A5.o.v rfl;obtain⟨ld,BO,xM⟩:=A5.o.fin;have GF:=bK BO;have RF:=bK xM;clear BO xM A5;go_wp2;exact br_ (by simp [results,Tryz.results141,asAddr,Result.andThen,ld]) rfl (FIN.o _ _ ⟨rfl,GF.o,RF.o⟩)
  .rcases Classical.em (Pu.dG s (i+1)=62\/Pu.dG s (i+1)=43) with hgo | hgo
   focus
    have j2:i+1<s.size:=Pu.fB (s:=s) (i:=i+1) (by rcases hgo with h | h <;> rw [h] <;> decide)
    have Ah:Hid (fF (Pu.dG s (i+2))->∀e w' c,(Pu.dG s (i+1)=62/\c=1)\/(Pu.dG s (i+1)=43/\c=2)->jR (.tuple #[.agg #[I_ 1,I_ c,I_ (Pu.dG s (i+2)-97)],.bool true]) g s (i+3) vp d w e w'->yf g s i vp d w e w'):=by
     intro hL e w' c hc k;rcases hc with ⟨h1,rfl⟩ | ⟨h1,rfl⟩
     .exact .inl ⟨i+3,_,_,_,.bG HE.o h1 hL,k⟩
     .exact .inl ⟨i+3,_,_,_,.push HE.o h1 hL,k⟩
    have vW:Hid (¬fF (Pu.dG s (i+2))->∀e w' c,jR (.tuple #[.agg #[I_ 1,I_ c,I_ 0],.bool false]) g s (i+2) vp d w e w'->yf g s i vp d w e w'):=fun hL e w' c k=>.inr ⟨i+2,_,_,_,.mode HE.o hgo hL,k⟩
   rotate_left
   focus have FIN:Hid (∀e w',jR (.tuple #[.agg #[I_ 1,I_ 0,I_ 0],.bool true]) g s (i+1) vp d w e w'->yf g s i vp d w e w'):=fun e w' k=>.inl ⟨i+1,_,_,_,.plain HE.o Mg (fun e=>hgo (.inl e)) (fun e=>hgo (.inr e)),k⟩
   rotate_left
   all_goals
    refine (lJ g (i+1) s vp d _ A2.o.rb).mono ?_
    rintro e w3 ⟨rfl,hb3⟩
   .have A3:=bK (A2.o.below hb3);clear hb3 A2;generalize hq:Pu.dG s (i+1)=q at *;clear hq Mg;have v1:=bP 1 A3.o.v rfl;have vf1:=bL A3.o.v 1;rcases hgo with h | h
    focus
     subst h;have A4:=bK (A3.o.We 1);go_upto_region 18 with (fail);clear v1 vf1 A3;generalize w3.setCell (a_ gV 1) (I_ 1)=W4 at *;have c1:=bP 1 A4.o.rb rfl;have f1:=bL A4.o.rb 1;have A5:Hid (Ae g s (i+2) vp d w gR gV 1 1 0 (W4.setCell (a_ g 1) (I_ ((i:Int)+1+1)))):=A4.o.at1
    rotate_left
    focus
     subst h;have A4:=bK (A3.o.We 2);go_upto_region 18 with (fail);clear v1 vf1 A3;generalize w3.setCell (a_ gV 1) (I_ 2)=W4 at *;have c1:=bP 1 A4.o.rb rfl;have f1:=bL A4.o.rb 1;have A5:Hid (Ae g s (i+2) vp d w gR gV 1 2 0 (W4.setCell (a_ g 1) (I_ ((i:Int)+1+1)))):=A4.o.at1
    rotate_left
    all_goals
     go_wp2_with fail
     clear c1 f1 A4;generalize W4.setCell (a_ g 1) (I_ ((i:Int)+1+1))=W5 at *;refine (Ez g (i+2) s vp d W5 A5.o.rb (by omega)).mono ?_
    .rintro e w6 (⟨hL,rfl,rM,yD⟩ | ⟨hL,rfl,rM,yD⟩)
     focus
      have A6:=bK (A5.o.eP rM yD);clear rM yD A5;have FIN:=bK (fun e w'=>Ah.o hL e w' 1 (by simp));clear Ah vW hL;generalize Pu.dG s (i+2)-97=x at *;have v2:=bP 2 A6.o.v rfl;have Ri:=bL A6.o.v 2;have A7:=bK (A6.o.xZ x);go_upto_region 21 with (fail);clear v2 Ri A6;generalize w6.setCell (a_ gV 2) (I_ x)=W7 at *
     rotate_left
     focus
      have A6:=bK (A5.o.eP rM yD);clear rM yD A5;have FIN:=bK (fun e w'=>vW.o hL e w' 1);clear Ah vW hL;have v2:=bP 2 A6.o.v rfl;have Ri:=bL A6.o.v 2;have A7:=bK (A6.o.xZ 0);go_upto_region 21 with (fail);clear v2 Ri A6;generalize w6.setCell (a_ gV 2) (I_ 0)=W7 at *
     all_goals
      have A5:=A7;clear A7;have aY:=bP 0 A5.o.r rfl;have r1:=bP 1 A5.o.r rfl;have r2:=bP 2 A5.o.r rfl;have rf0:=bL A5.o.r 0;have rf1:=bL A5.o.r 1;have rf2:=bL A5.o.r 2;have v0:=bP 0 A5.o.v rfl;have v1:=bP 1 A5.o.v rfl;have v2:=bP 2 A5.o.v rfl;obtain⟨ld,BO,xM⟩:=A5.o.fin;have GF:=bK BO;have RF:=bK xM;clear BO xM A5;go_wp2;exact br_ (by simp [results,Tryz.results141,asAddr,Result.andThen,ld]) rfl (FIN.o _ _ ⟨rfl,GF.o,RF.o⟩)
    .rintro e w6 (⟨hL,rfl,rM,yD⟩ | ⟨hL,rfl,rM,yD⟩)
     focus
      have A6:=bK (A5.o.eP rM yD);clear rM yD A5;have FIN:=bK (fun e w'=>Ah.o hL e w' 2 (by simp));clear Ah vW hL;generalize Pu.dG s (i+2)-97=x at *;have v2:=bP 2 A6.o.v rfl;have Ri:=bL A6.o.v 2;have A7:=bK (A6.o.xZ x);go_upto_region 21 with (fail);clear v2 Ri A6;generalize w6.setCell (a_ gV 2) (I_ x)=W7 at *
     rotate_left
     focus
      have A6:=bK (A5.o.eP rM yD);clear rM yD A5;have FIN:=bK (fun e w'=>vW.o hL e w' 2);clear Ah vW hL;have v2:=bP 2 A6.o.v rfl;have Ri:=bL A6.o.v 2;have A7:=bK (A6.o.xZ 0);go_upto_region 21 with (fail);clear v2 Ri A6;generalize w6.setCell (a_ gV 2) (I_ 0)=W7 at *
     all_goals
      have A5:=A7;clear A7;have aY:=bP 0 A5.o.r rfl;have r1:=bP 1 A5.o.r rfl;have r2:=bP 2 A5.o.r rfl;have rf0:=bL A5.o.r 0;have rf1:=bL A5.o.r 1;have rf2:=bL A5.o.r 2;have v0:=bP 0 A5.o.v rfl;have v1:=bP 1 A5.o.v rfl;have v2:=bP 2 A5.o.v rfl;obtain⟨ld,BO,xM⟩:=A5.o.fin;have GF:=bK BO;have RF:=bK xM;clear BO xM A5;go_wp2;exact br_ (by simp [results,Tryz.results141,asAddr,Result.andThen,ld]) rfl (FIN.o _ _ ⟨rfl,GF.o,RF.o⟩)
   .have A5:=bK (A2.o.below hb3);clear hb3 A2;generalize Pu.dG s (i+1)=q at *;have n1:(q == 60)=false:=by simpa using Mg
    have n2:(q == 62)=false:=by simp;omega
    have n3:(q == 43)=false:=by simp;omega
    clear Mg hgo;have aY:=bP 0 A5.o.r rfl;have r1:=bP 1 A5.o.r rfl;have r2:=bP 2 A5.o.r rfl;have rf0:=bL A5.o.r 0;have rf1:=bL A5.o.r 1;have rf2:=bL A5.o.r 2;have v0:=bP 0 A5.o.v rfl;have v1:=bP 1 A5.o.v rfl;have v2:=bP 2 A5.o.v rfl;obtain⟨ld,BO,xM⟩:=A5.o.fin;have GF:=bK BO;have RF:=bK xM;clear BO xM A5;go_wp2;exact br_ (by simp [results,Tryz.results141,asAddr,Result.andThen,ld]) rfl (FIN.o _ _ ⟨rfl,GF.o,RF.o⟩)
 .rcases Classical.em (Pu.dG s i=115) with Pw | Pw
  .have HE:Hid (nH (Pu.dG s i) 0):=.inr ⟨Pw,rfl⟩;rw [Pw];clear Pw Mf;have c1:=bP 1 A1.o.rb rfl;have f1:=bL A1.o.rb 1;have A2:=bK A1.o.at1
   go_wp2_with fail
   clear c1 f1 A1;generalize w1.setCell (a_ g 1) (I_ ((i:Int)+1))=W2 at *;have g1:=bO A2.o.rb;rcases Classical.em (Pu.dG s (i+1)=60) with Mg | Mg
   .have FIN:Hid (∀e w',jR (.tuple #[.agg #[I_ 0,I_ 3,I_ 0],.bool true]) g s (i+2) vp d w e w'->yf g s i vp d w e w'):=fun e w' k=>.inl ⟨i+2,_,_,_,.pop HE.o Mg,k⟩
    refine (lJ g (i+1) s vp d _ A2.o.rb).mono ?_
    rintro e w3 ⟨rfl,hb3⟩;have A3:=bK (A2.o.below hb3);clear hb3 A2;rw [Mg];clear Mg;have c1:=bP 1 A3.o.rb rfl;have f1:=bL A3.o.rb 1;have A4:Hid (Ae g s (i+2) vp d w gR gV 0 0 0 (w3.setCell (a_ g 1) (I_ ((i:Int)+1+1)))):=A3.o.at1;go_upto_region 12 with (fail);clear c1 f1 A3;generalize w3.setCell (a_ g 1) (I_ ((i:Int)+1+1))=W4 at *;have c1:=bP 1 A4.o.v rfl;have f1:=bL A4.o.v 1;have A5:=bK (A4.o.We 3);go_upto_region 13 with (fail);clear c1 f1 A4;generalize W4.setCell (a_ gV 1) (I_ 3)=W5 at *;have aY:=bP 0 A5.o.r rfl;have r1:=bP 1 A5.o.r rfl;have r2:=bP 2 A5.o.r rfl;have rf0:=bL A5.o.r 0;have rf1:=bL A5.o.r 1;have rf2:=bL A5.o.r 2;have v0:=bP 0 A5.o.v rfl;have v1:=bP 1 A5.o.v rfl;have v2:=bP 2 A5.o.v rfl;obtain⟨ld,BO,xM⟩:=A5.o.fin;have GF:=bK BO;have RF:=bK xM;clear BO xM A5;go_wp2;exact br_ (by simp [results,Tryz.results141,asAddr,Result.andThen,ld]) rfl (FIN.o _ _ ⟨rfl,GF.o,RF.o⟩)
   .rcases Classical.em (Pu.dG s (i+1)=62\/Pu.dG s (i+1)=43) with hgo | hgo
    focus
     have j2:i+1<s.size:=Pu.fB (s:=s) (i:=i+1) (by rcases hgo with h | h <;> rw [h] <;> decide)
     have Ah:Hid (fF (Pu.dG s (i+2))->∀e w' c,(Pu.dG s (i+1)=62/\c=1)\/(Pu.dG s (i+1)=43/\c=2)->jR (.tuple #[.agg #[I_ 0,I_ c,I_ (Pu.dG s (i+2)-97)],.bool true]) g s (i+3) vp d w e w'->yf g s i vp d w e w'):=by
      intro hL e w' c hc k;rcases hc with ⟨h1,rfl⟩ | ⟨h1,rfl⟩
      .exact .inl ⟨i+3,_,_,_,.bG HE.o h1 hL,k⟩
      .exact .inl ⟨i+3,_,_,_,.push HE.o h1 hL,k⟩
     have vW:Hid (¬fF (Pu.dG s (i+2))->∀e w' c,jR (.tuple #[.agg #[I_ 0,I_ c,I_ 0],.bool false]) g s (i+2) vp d w e w'->yf g s i vp d w e w'):=fun hL e w' c k=>.inr ⟨i+2,_,_,_,.mode HE.o hgo hL,k⟩
    rotate_left
    focus have FIN:Hid (∀e w',jR (.tuple #[.agg #[I_ 0,I_ 0,I_ 0],.bool true]) g s (i+1) vp d w e w'->yf g s i vp d w e w'):=fun e w' k=>.inl ⟨i+1,_,_,_,.plain HE.o Mg (fun e=>hgo (.inl e)) (fun e=>hgo (.inr e)),k⟩
    rotate_left
    all_goals
     refine (lJ g (i+1) s vp d _ A2.o.rb).mono ?_
     rintro e w3 ⟨rfl,hb3⟩
    .have A3:=bK (A2.o.below hb3);clear hb3 A2;generalize hq:Pu.dG s (i+1)=q at *;clear hq Mg;have v1:=bP 1 A3.o.v rfl;have vf1:=bL A3.o.v 1;rcases hgo with h | h
     focus
      subst h;have A4:=bK (A3.o.We 1);go_upto_region 18 with (fail);clear v1 vf1 A3;generalize w3.setCell (a_ gV 1) (I_ 1)=W4 at *;have c1:=bP 1 A4.o.rb rfl;have f1:=bL A4.o.rb 1;have A5:Hid (Ae g s (i+2) vp d w gR gV 0 1 0 (W4.setCell (a_ g 1) (I_ ((i:Int)+1+1)))):=A4.o.at1
     rotate_left
     focus
      subst h;have A4:=bK (A3.o.We 2);go_upto_region 18 with (fail);clear v1 vf1 A3;generalize w3.setCell (a_ gV 1) (I_ 2)=W4 at *;have c1:=bP 1 A4.o.rb rfl;have f1:=bL A4.o.rb 1;have A5:Hid (Ae g s (i+2) vp d w gR gV 0 2 0 (W4.setCell (a_ g 1) (I_ ((i:Int)+1+1)))):=A4.o.at1
     rotate_left
     all_goals
      go_wp2_with fail
      clear c1 f1 A4;generalize W4.setCell (a_ g 1) (I_ ((i:Int)+1+1))=W5 at *;refine (Ez g (i+2) s vp d W5 A5.o.rb (by omega)).mono ?_
     .rintro e w6 (⟨hL,rfl,rM,yD⟩ | ⟨hL,rfl,rM,yD⟩)
      focus
       have A6:=bK (A5.o.eP rM yD);clear rM yD A5;have FIN:=bK (fun e w'=>Ah.o hL e w' 1 (by simp));clear Ah vW hL;generalize Pu.dG s (i+2)-97=x at *;have v2:=bP 2 A6.o.v rfl;have Ri:=bL A6.o.v 2;have A7:=bK (A6.o.xZ x);go_upto_region 21 with (fail);clear v2 Ri A6;generalize w6.setCell (a_ gV 2) (I_ x)=W7 at *
      rotate_left
      focus
       have A6:=bK (A5.o.eP rM yD);clear rM yD A5;have FIN:=bK (fun e w'=>vW.o hL e w' 1);clear Ah vW hL;have v2:=bP 2 A6.o.v rfl;have Ri:=bL A6.o.v 2;have A7:=bK (A6.o.xZ 0);go_upto_region 21 with (fail);clear v2 Ri A6;generalize w6.setCell (a_ gV 2) (I_ 0)=W7 at *
      all_goals
       have A5:=A7;clear A7;have aY:=bP 0 A5.o.r rfl;have r1:=bP 1 A5.o.r rfl;have r2:=bP 2 A5.o.r rfl;have rf0:=bL A5.o.r 0;have rf1:=bL A5.o.r 1;have rf2:=bL A5.o.r 2;have v0:=bP 0 A5.o.v rfl;have v1:=bP 1 A5.o.v rfl;have v2:=bP 2 A5.o.v rfl;obtain⟨ld,BO,xM⟩:=A5.o.fin;have GF:=bK BO;have RF:=bK xM;clear BO xM A5;go_wp2;exact br_ (by simp [results,Tryz.results141,asAddr,Result.andThen,ld]) rfl (FIN.o _ _ ⟨rfl,GF.o,RF.o⟩)
     .rintro e w6 (⟨hL,rfl,rM,yD⟩ | ⟨hL,rfl,rM,yD⟩)
      focus
       have A6:=bK (A5.o.eP rM yD);clear rM yD A5;have FIN:=bK (fun e w'=>Ah.o hL e w' 2 (by simp));clear Ah vW hL;generalize Pu.dG s (i+2)-97=x at *;have v2:=bP 2 A6.o.v rfl;have Ri:=bL A6.o.v 2;have A7:=bK (A6.o.xZ x);go_upto_region 21 with (fail);clear v2 Ri A6;generalize w6.setCell (a_ gV 2) (I_ x)=W7 at *
      rotate_left
      focus
       have A6:=bK (A5.o.eP rM yD);clear rM yD A5;have FIN:=bK (fun e w'=>vW.o hL e w' 2);clear Ah vW hL;have v2:=bP 2 A6.o.v rfl;have Ri:=bL A6.o.v 2;have A7:=bK (A6.o.xZ 0);go_upto_region 21 with (fail);clear v2 Ri A6;generalize w6.setCell (a_ gV 2) (I_ 0)=W7 at *
      all_goals
       have A5:=A7;clear A7;have aY:=bP 0 A5.o.r rfl;have r1:=bP 1 A5.o.r rfl;have r2:=bP 2 A5.o.r rfl;have rf0:=bL A5.o.r 0;have rf1:=bL A5.o.r 1;have rf2:=bL A5.o.r 2;have v0:=bP 0 A5.o.v rfl;have v1:=bP 1 A5.o.v rfl;have v2:=bP 2 A5.o.v rfl;obtain⟨ld,BO,xM⟩:=A5.o.fin;have GF:=bK BO;have RF:=bK xM;clear BO xM A5;go_wp2;exact br_ (by simp [results,Tryz.results141,asAddr,Result.andThen,ld]) rfl (FIN.o _ _ ⟨rfl,GF.o,RF.o⟩)
    .have A5:=bK (A2.o.below hb3);clear hb3 A2;generalize Pu.dG s (i+1)=q at *;have n1:(q == 60)=false:=by simpa using Mg
     have n2:(q == 62)=false:=by simp;omega
     have n3:(q == 43)=false:=by simp;omega
     clear Mg hgo;have aY:=bP 0 A5.o.r rfl;have r1:=bP 1 A5.o.r rfl;have r2:=bP 2 A5.o.r rfl;have rf0:=bL A5.o.r 0;have rf1:=bL A5.o.r 1;have rf2:=bL A5.o.r 2;have v0:=bP 0 A5.o.v rfl;have v1:=bP 1 A5.o.v rfl;have v2:=bP 2 A5.o.v rfl;obtain⟨ld,BO,xM⟩:=A5.o.fin;have GF:=bK BO;have RF:=bK xM;clear BO xM A5;go_wp2;exact br_ (by simp [results,Tryz.results141,asAddr,Result.andThen,ld]) rfl (FIN.o _ _ ⟨rfl,GF.o,RF.o⟩)
  .have FIN:Hid (∀e w',jR (.tuple #[.agg #[I_ 0,I_ 0,I_ 0],.bool false]) g s i vp d w e w'->yf g s i vp d w e w'):=fun e w' k=>.inr ⟨i,_,_,_,.none Mf Pw,k⟩
   generalize Pu.dG s i=q at *;have n1:(q == 101)=false:=by simpa using Mf
   have n2:(q == 115)=false:=by simpa using Pw
   clear Mf Pw;have A5:=A1;clear A1;have aY:=bP 0 A5.o.r rfl;have r1:=bP 1 A5.o.r rfl;have r2:=bP 2 A5.o.r rfl;have rf0:=bL A5.o.r 0;have rf1:=bL A5.o.r 1;have rf2:=bL A5.o.r 2;have v0:=bP 0 A5.o.v rfl;have v1:=bP 1 A5.o.v rfl;have v2:=bP 2 A5.o.v rfl;obtain⟨ld,BO,xM⟩:=A5.o.fin;have GF:=bK BO;have RF:=bK xM;clear BO xM A5;go_wp2;exact br_ (by simp [results,Tryz.results141,asAddr,Result.andThen,ld]) rfl (FIN.o _ _ ⟨rfl,GF.o,RF.o⟩)
def rT (mode em act md:Int) (c:Bool) (af:Option Addr) (mf cf:Nat) (al:Option Addr) (nl cl:Nat) (dn:Bool):List V_:=[I_ mode,I_ em,I_ act,I_ md,.bool c,.slice af mf cf,.slice al nl cl,.bool dn]
def He (B g:Nat) (s:Y_) (i:Nat) (ps:List Pu.aJ) (d:Bool) (W:W_):Prop:=∃vp qs,Rd B g s i ps d vp qs W
def adb (B g:Nat) (s:Y_) (i:Nat) (ps:List Pu.aJ) (w:W_) (e:Ending) (w':W_):Prop:=
 (∃k x af mf cf al nl cl,Hd s i k x/\e=.returned (.tuple #[.agg (rT x.mode x.emit x.act x.md (Pu.part x.re ps).1.empty af mf cf al nl cl x.down).toArray,.bool true])/\ed w' (.slice af mf cf) (Pu.part x.re ps).1.first/\ed w' (.slice al nl cl) (Pu.part x.re ps).1.last/\Rk B w w'/\He B g s k (Pu.part x.re ps).2 x.down w')\/
 (∃k mode em act md c af mf cf al nl cl dn ps' d',Ug s i k/\e=.returned (.tuple #[.agg (rT mode em act md c af mf cf al nl cl dn).toArray,.bool false])/\Rk B w w'/\He B g s k ps' d' w')
structure LS (B g:Nat) (s:Y_) (k:Nat) (ps:List Pu.aJ) (d:Bool) (w:W_) (gR:Nat) (W:W_):Prop where
 rd:He B g s k ps d W
 rk:Rk B w W
 r:dh W gR 85 (rT 0 0 0 0 false none 0 0 none 0 0 false)
 ap:w.heap.size<=gR/\B<=w.heap.size
section
variable {B g:Nat} {s:Y_} {k j:Nat} {ps ps':List Pu.aJ} {d d':Bool} {w:W_} {gR:Nat} {W W':W_} {vp:V_} {qs:List (Pu.aJ × V_)}
theorem He.lt (h:He B g s k ps d W):B<=W.heap.size:=by obtain⟨vp,qs,rd⟩:=h;exact rd.lt
theorem He.below (h:He B g s k ps d W) (hb:B_ W W'):He B g s k ps d W':=by obtain⟨vp,qs,rd⟩:=h;exact⟨vp,qs,rd.below hb⟩
theorem LS.below (h:LS B g s k ps d w gR W) (hb:B_ W W'):LS B g s k ps d w gR W':=⟨h.rd.below hb,h.rk.trans (.below h.rd.lt hb),bN h.r hb (bO h.r),h.ap⟩
theorem LS.on (h:LS B g s k ps d w gR W) (rk:Rk B W W') (rd:He B g s j ps' d' W'):LS B g s j ps' d' w gR W':=⟨rd,h.rk.trans rk,rk.fA h.r (by decide) (by decide),h.ap⟩
theorem Vr {c:Bool} (h:dh W g 85 (rT mode em act md c af mf cf al nl cl dn)):(loadVar 85 (a_ g 0)).run Tryz.prog W=.ok (.agg (rT mode em act md c af mf cf al nl cl dn).toArray) W:=
 run_loadVar_mid W g 0 85 (rT mode em act md c af mf cf al nl cl dn) _ (dZ h) Tryz.underlying85 rfl (by kernel_rfl)
theorem zD {c:Bool}:∀u∈rT mode em act md c af mf cf al nl cl dn,u.oneCell'=true:=by intro u hu;simp [rT] at hu;rcases hu with rfl | rfl | rfl | rfl | rfl | rfl | rfl | rfl <;> rfl
theorem LS.put (h:LS B g s k ps d w gR W) (mode em act md:Int) (c:Bool) (af:Option Addr) (mf cf:Nat) (al:Option Addr) (nl cl:Nat) (dn:Bool) :
  (loadVar 85 (a_ gR 0)).run Tryz.prog (W.setCells gR 0 (rT mode em act md c af mf cf al nl cl dn))=.ok (.agg (rT mode em act md c af mf cf al nl cl dn).toArray) (W.setCells gR 0 (rT mode em act md c af mf cf al nl cl dn))/\
  Rk B w (W.setCells gR 0 (rT mode em act md c af mf cf al nl cl dn))/\He B g s k ps d (W.setCells gR 0 (rT mode em act md c af mf cf al nl cl dn))/\(∀v l,ed W v l->ed (W.setCells gR 0 (rT mode em act md c af mf cf al nl cl dn)) v l):=by
 obtain⟨vp,qs,rd⟩:=h.rd;have g5:=BM (g:=gR) (rT mode em act md c af mf cf al nl cl dn) 0 W;exact⟨Vr (oK _ h.r rfl),h.rk.fresh g5 h.ap.1 h.ap.2,⟨vp,qs,rd.yV h.r (by decide) (by decide) (by decide) g5⟩,fun v l hn=>dI hn h.r (by decide) g5⟩
end
theorem Cy {P:Program} {ops:Array Oper} {S:W_->Prop} {op:Oper} {a:Act} (hw:Region.wanted op (yielded ops a.tmps)=true) (t:TypeId) (x0 x1 x2 x3:Operand) (v0 v1 v2 v3:V_) (ho:op.op=.build t #[(0,x0),(1,x1),(2,x2),(3,x3)]) (h0:a.eval x0=v0) (h1:a.eval x1=v1) (h2:a.eval x2=v2) (h3:a.eval x3=v3) (cells:Array V_) (hf:P.built t [(0,v0),(1,v1),(2,v2),(3,v3)]=some cells):YieldsIf P ops S op (.agg cells) a:=
 .inl ⟨hw,fun w _=>by
  subst h0 h1 h2 h3;have h:=run_build (P:=P) w t #[(0,a.eval x0),(1,a.eval x1),(2,a.eval x2),(3,a.eval x3)] cells hf;unfold execOp;simp only [ho,Sem.run_bind,List.map_toArray,List.map_cons,List.map_nil];rw [h]
  rfl⟩
theorem PZ (mo eb c m:Int) (em dn:Bool) (af:Option Addr) (mf cf:Nat) (al:Option Addr) (nl cl:Nat):Tryz.prog.built 85 [(0,I_ mo),(1,.agg #[I_ eb,I_ c,I_ m]),(2,.agg #[.bool em,.slice af mf cf,.slice al nl cl]),(3,.bool dn)]=some (rT mo eb c m em af mf cf al nl cl dn).toArray:=by kernel_rfl
theorem vH {P:Program} {w:W_} {ops:Array Oper} {o:Oper} {a:Act} {K:Act->W_->Prop} {Q:Exit->Act->W_->Prop} {E:Prop} (hgd:o.guard=none) (ty:TypeId) (x y:Operand) (ho:o.op=.store ty x y)
  (b off:Nat) (cells:Array V_) (hx:a.eval x=.pointer (some (a_ b off))) (hy:a.eval y=.agg cells) (ht:w.there b off cells.size) (hi:(P.info? ty).map (·.size)=some cells.size) (h1:cells.all (·.oneCell')=true)
  (h:K (a.put o.dst undef) (w.setCells b off cells.toList)):if Region.wanted o (yielded ops a.tmps)=true then Oper.wp P o a w K Q else E:=by
 have hw:Region.wanted o (yielded ops a.tmps)=true:=by simp [Region.wanted,hgd]
 rw [if_pos hw];exact wp_store_mid ty x y ho b off cells hx hy ht hi h1 h
theorem rQ {mode' em' act' md':Int} {c c' dn':Bool} {af' al':Option Addr} {mf' cf' nl' cl':Nat} (h:dh W g 85 (rT mode em act md c af mf cf al nl cl dn)):W.there g 0 (rT mode' em' act' md' c' af' mf' cf' al' nl' cl' dn').toArray.size:=by have:=mH h;exact this
structure LnS (gU gP g:Nat) (eb c m:Int) (em:Bool) (af:Option Addr) (mf cf:Nat) (al:Option Addr) (nl cl:Nat) (D:Bool) (w':W_):Prop where
 u0:w'.cell? (a_ gU 0)=some (I_ eb)
 u1:w'.cell? (a_ gU 1)=some (I_ c)
 u2:w'.cell? (a_ gU 2)=some (I_ m)
 p0:w'.cell? (a_ gP 0)=some (.bool em)
 p1:w'.cell? (a_ gP 1)=some (.slice af mf cf)
 p2:w'.cell? (a_ gP 2)=some (.slice al nl cl)
 r3:w'.cell? (a_ g 3)=some (.bool D)
theorem Zo (B g i:Nat) (s:Y_) (ps:List Pu.aJ) (d:Bool) (w:W_) (h:He B g s i ps d w) (hok:iU ps) (hl:ps.length<=i) (hi:i<=s.size) (hs:s.size<=400) :
  C_ 114 #[p_ g] w (adb B g s i ps w):=by
 have BL:=h.lt;obtain⟨vp,qs,rd⟩:=h;have gl:=rd.rb.lt;have hg0:=gs_ w g 3 (.bool false);have aY:Rd B g s i ps false vp qs (w.setCell (a_ g 3) (.bool false)):=rd.eP hg0 (cO rd.rb 3 _);have sz0:(w.setCell (a_ g 3) (.bool false)).heap.size=w.heap.size:=by simp [World.setCell]
 have hb0:=(Br_ (w.setCell (a_ g 3) (.bool false)).heap.size (w.setCell (a_ g 3) (.bool false))).alloc di (c_ (rT 0 0 0 0 false none 0 0 none 0 0 false).toArray 85);have r1:=aY.below hb0
 have L0:Hid (LS B g s i ps false w w.heap.size ((w.setCell (a_ g 3) (.bool false)).alloc (c_ (rT 0 0 0 0 false none 0 0 none 0 0 false).toArray 85))):=⟨⟨vp,qs,r1⟩,(rd.rk hg0).trans (.below aY.lt hb0),by have:=hn_ (w.setCell (a_ g 3) (.bool false)) (c_ (rT 0 0 0 0 false none 0 0 none 0 0 false).toArray 85);rw [sz0] at this;exact this,di,BL⟩
 have R0:=bK r1;have c3:=bP 3 rd.rb rfl;have f3:=bL rd.rb 3;have OK:=bK hok;have gne:g≠w.heap.size:=by omega
 clear hb0 hg0 aY r1 rd hok sz0;go_enter Tryz.func114,Tryz.ntmps114
 go_wp2_with fail
 generalize hW:(w.setCell (a_ g 3) (.bool false)).alloc (c_ (rT 0 0 0 0 false none 0 0 none 0 0 false).toArray 85)=W0 at *;simp only [rT] at hW;rw [hW];clear hW c3 f3 gne;generalize w.heap.size=gR at *;refine (Ez g i s vp false W0 R0.o.rb (by omega)).mono ?_
 rintro e w1 (⟨hL,rfl,hg1,hr1⟩ | ⟨hL,rfl,hg1,hr1⟩)
 rotate_left
 .have LL:=bK (L0.o.on (R0.o.rk hg1) ⟨vp,qs,R0.o.eP hg1 hr1⟩);have FF:Hid (Ug s i i):=.mode hL;clear hg1 hr1 L0 R0 hL;have LX:=LL;clear LL;obtain⟨ld,kF,rF,_⟩:=LX.o.put 0 0 0 0 false none 0 0 none 0 0 false;have KF:=bK kF;have RF:=bK rF;clear kF rF
  go_wp2_with (refine ws_ rfl 85 (.tmp 2) (.tmp 23) rfl gR 0 (rT 0 0 0 0 false none 0 0 none 0 0 false).toArray rfl rfl (rQ LX.o.r) (by kernel_rfl) (oc_ zD) ?_)
  exact br_ (by simp [results,Tryz.results114,asAddr,Result.andThen,ld]) rfl (.inr ⟨_,0,0,0,0,false,none,0,0,none,0,0,false,_,_,FF.o,rfl,KF.o,RF.o⟩)
 .have L1:=bK (L0.o.on (R0.o.rk hg1) ⟨vp,qs,R0.o.eP hg1 hr1⟩);have R1:=bK (R0.o.eP hg1 hr1);have i1:i<s.size:=Pu.fB (s:=s) (i:=i) (by unfold fF at hL;omega);have HL:=bK hL;clear hg1 hr1 L0 R0 hL;obtain⟨mo,hmo⟩:∃mo,mo=Pu.dG s i-97:=⟨_,rfl⟩;have HM:=bK hmo;rw [<-hmo];clear hmo
  go_wp2_with fail
  refine (oq g (i+1) s vp false 32 w1 R1.o.rb (by omega)).mono ?_
  rcases Classical.em (Pu.dG s (i+1)=32) with h32 | h32
  rotate_left
  .rw [if_neg h32,dn_ h32];rintro e w2 ⟨rfl,hg2,hr2⟩;have LL:=bK (L1.o.on (R1.o.rk hg2) ⟨vp,qs,R1.o.eP hg2 hr2⟩);have FF:Hid (Ug s i (i+1)):=.blank HL.o h32;clear hg2 hr2 L1 R1 h32;have LX:=LL;clear LL;obtain⟨ld,kF,rF,_⟩:=LX.o.put 0 0 0 0 false none 0 0 none 0 0 false;have KF:=bK kF;have RF:=bK rF;clear kF rF
   go_wp2_with (refine ws_ rfl 85 (.tmp 2) (.tmp 23) rfl gR 0 (rT 0 0 0 0 false none 0 0 none 0 0 false).toArray rfl rfl (rQ LX.o.r) (by kernel_rfl) (oc_ zD) ?_)
   exact br_ (by simp [results,Tryz.results114,asAddr,Result.andThen,ld]) rfl (.inr ⟨_,0,0,0,0,false,none,0,0,none,0,0,false,_,_,FF.o,rfl,KF.o,RF.o⟩)
  .rw [if_pos h32,dt_ h32];rintro e w2 ⟨rfl,hg2,hr2⟩;have L2:=bK (L1.o.on (R1.o.rk hg2) ⟨vp,qs,R1.o.eP hg2 hr2⟩);have R2:=bK (R1.o.eP hg2 hr2);have i2:i+1<s.size:=Pu.fB (s:=s) (i:=i+1) (by rw [h32];decide);have H32:=bK h32;clear hg2 hr2 L1 R1 h32
   go_wp2_with fail
   refine (Ns s hs (i+2) i2 B g ps false vp qs w2 R2.o OK.o (by omega)).mono ?_
   rintro e w3 (⟨j,re,D,v,Rl,Xf,hP,rfl,pm,rk,rd⟩ | ⟨j,a2,ps2,d2,v,Rl,Xf,hF,rfl,pm,oa,Xe,lk,rk,rd⟩)
   rotate_left
   .obtain⟨af,mf,cf,al,nl,cl,rfl,n1,n2⟩:=pm;have hb:=(Br_ w3.heap.size w3).alloc di (c_ #[.bool a2.empty,.slice af mf cf,.slice al nl cl] 83);have LL:=bK ((L2.o.on rk ⟨Rl,Xf,rd⟩).below hb);have FF:Hid (Ug s i j):=.pat HL.o H32.o hF;clear hb rk rd n1 n2 L2 R2 hF oa Xe;go_upto_region 6 with (fail);generalize w3.alloc (c_ #[.bool a2.empty,.slice af mf cf,.slice al nl cl] 83)=W3 at *;have LX:=LL;clear LL;obtain⟨ld,kF,rF,_⟩:=LX.o.put 0 0 0 0 false none 0 0 none 0 0 false;have KF:=bK kF;have RF:=bK rF;clear kF rF
    go_wp2_with (refine ws_ rfl 85 (.tmp 2) (.tmp 36) rfl gR 0 (rT 0 0 0 0 false none 0 0 none 0 0 false).toArray rfl rfl (rQ LX.o.r) (by kernel_rfl) (oc_ zD) ?_)
    exact br_ (by simp [results,Tryz.results114,asAddr,Result.andThen,ld]) rfl (.inr ⟨_,0,0,0,0,false,none,0,0,none,0,0,false,_,_,FF.o,rfl,KF.o,RF.o⟩)
   .obtain⟨af,mf,cf,al,nl,cl,rfl,n1,n2⟩:=pm;have jl:j<=s.size:=hP.le i2 2 (.inl ⟨trivial,.inl rfl⟩);have hb:=(Br_ w3.heap.size w3).alloc di (c_ #[.bool (Pu.part re ps).1.empty,.slice af mf cf,.slice al nl cl] 83);have rd:Rd B g s j (Pu.part re ps).2 D Rl Xf w3:=rd;have L3:=bK ((L2.o.on rk ⟨Rl,Xf,rd⟩).below hb);have R3:=bK (rd.below hb);have N1:=bK (n1.below hb);have N2:=bK (n2.below hb);have XP:Hid (dh (w3.alloc (c_ #[.bool (Pu.part re ps).1.empty,.slice af mf cf,.slice al nl cl] 83)) w3.heap.size 83 [.bool (Pu.part re ps).1.empty,.slice af mf cf,.slice al nl cl]):=hn_ _ _;have HP:=bK hP;obtain⟨em,hem⟩:∃em,em=(Pu.part re ps).1.empty:=⟨_,rfl⟩;have HEM:=bK hem;rw [<-hem] at L3 R3 N1 N2 XP;rw [<-hem];clear hb rk rd n1 n2 L2 R2 hP hem
    go_wp2_with fail
    generalize w3.alloc (c_ #[.bool em,.slice af mf cf,.slice al nl cl] 83)=W3 at *;generalize w3.heap.size=gP at *;refine (oq g j s Rl D 32 W3 R3.o.rb (by omega)).mono ?_
    rcases Classical.em (Pu.dG s j=32) with h32 | h32
    rotate_left
    .rw [if_neg h32,dn_ h32];rintro e w4 ⟨rfl,hg4,hr4⟩;have LL:=bK (L3.o.on (R3.o.rk hg4) ⟨Rl,Xf,R3.o.eP hg4 hr4⟩);have FF:Hid (Ug s i j):=.blank' HL.o H32.o HP.o h32;clear hg4 hr4 L3 R3 h32;have LX:=LL;clear LL;obtain⟨ld,kF,rF,_⟩:=LX.o.put 0 0 0 0 false none 0 0 none 0 0 false;have KF:=bK kF;have RF:=bK rF;clear kF rF
     go_wp2_with (refine ws_ rfl 85 (.tmp 2) (.tmp 36) rfl gR 0 (rT 0 0 0 0 false none 0 0 none 0 0 false).toArray rfl rfl (rQ LX.o.r) (by kernel_rfl) (oc_ zD) ?_)
     exact br_ (by simp [results,Tryz.results114,asAddr,Result.andThen,ld]) rfl (.inr ⟨_,0,0,0,0,false,none,0,0,none,0,0,false,_,_,FF.o,rfl,KF.o,RF.o⟩)
    .rw [if_pos h32,dt_ h32];rintro e w4 ⟨rfl,hg4,hr4⟩;have k4:=R3.o.rk hg4;have L4:=bK (L3.o.on k4 ⟨Rl,Xf,R3.o.eP hg4 hr4⟩);have R4:=bK (R3.o.eP hg4 hr4);have M1:=bK (k4.jF N1.o);have M2:=bK (k4.jF N2.o);have XP4:=bK (k4.fA XP.o (by decide) (by decide));have j1:j<s.size:=Pu.fB (s:=s) (i:=j) (by rw [h32];decide);have afG:=bK h32;clear hg4 hr4 L3 R3 h32 k4 N1 N2 XP
     go_wp2_with fail
     refine (OT g (j+1) s Rl D w4 R4.o.rb (by omega)).mono ?_
     intro e w5 hq
     have hq:∃k eb c m ok,(ok=true->Pu.Act s (j+1) k eb c m)/\(ok=false->OH s (j+1) k)/\jR (.tuple #[.agg #[I_ eb,I_ c,I_ m],.bool ok]) g s k Rl D w4 e w5:=by
      rcases hq with ⟨k,eb,c,m,h1,h2⟩ | ⟨k,eb,c,m,h1,h2⟩
      .exact⟨k,eb,c,m,true,fun _=>h1,fun e=>(by cases e),h2⟩
      .exact⟨k,eb,c,m,false,fun e=>(by cases e),fun _=>h1,h2⟩
     obtain⟨k,eb,c,m,ok,hA,hAF,rfl,hg5,hr5⟩:=hq;have k5:=R4.o.rk hg5;have r5:=R4.o.eP hg5 hr5;have hb:=(Br_ w5.heap.size w5).alloc di (c_ #[I_ eb,I_ c,I_ m] 59);have L5:=bK ((L4.o.on k5 ⟨Rl,Xf,r5⟩).below hb);have R5:=bK (r5.below hb);have Q1:=bK ((k5.jF M1.o).below hb);have Q2:=bK ((k5.jF M2.o).below hb);have xp5:=k5.fA XP4.o (by decide) (by decide);have XP5:=bK (bN xp5 hb (bO xp5));have XU:Hid (dh (w5.alloc (c_ #[I_ eb,I_ c,I_ m] 59)) w5.heap.size 59 [I_ eb,I_ c,I_ m]):=hn_ _ _;have HA:=bK hA;have HAF:=bK hAF;clear hg5 hr5 k5 r5 hb L4 R4 M1 M2 XP4 xp5 hA hAF;have r3:=bP 3 R5.o.rb rfl;have p0:=bP 0 XP5.o rfl;have p1:=bP 1 XP5.o rfl;have p2:=bP 2 XP5.o rfl;have u0:=bP 0 XU.o rfl;have u1:=bP 1 XU.o rfl;have u2:=bP 2 XU.o rfl;go_upto_region 9 with (fail);generalize w5.alloc (c_ #[I_ eb,I_ c,I_ m] 59)=W5 at *;generalize w5.heap.size=gU at *;have dr:=(Br_ W5.heap.size W5).drew;have LX:=bK (L5.o.below dr);obtain⟨ld,kF,rF,nF⟩:=LX.o.put mo eb c m em af mf cf al nl cl D;have KF:=bK kF;have RF:=bK rF;have NF1:=bK (nF _ _ (Q1.o.below dr));have NF2:=bK (nF _ _ (Q2.o.below dr));clear kF rF nF Q1 Q2
     have FIN:Hid (adb B g s i ps w (.returned (.tuple #[.agg (rT mo eb c m em af mf cf al nl cl D).toArray,.bool ok])) (W5.drew.setCells gR 0 (rT mo eb c m em af mf cf al nl cl D))):=by
      cases ok with
      | true=>exact .inl ⟨k,⟨mo,eb,c,m,re,D⟩,af,mf,cf,al,nl,cl,by rw [HM.o];exact .mk HL.o H32.o HP.o afG.o (HA.o rfl),by rw [<-HEM.o],NF1.o,NF2.o,KF.o,RF.o⟩
      | false=>exact .inr ⟨k,_,_,_,_,_,_,_,_,_,_,_,_,_,_,.act HL.o H32.o HP.o afG.o (HAF.o rfl),rfl,KF.o,RF.o⟩
     have S1:LnS gU gP g eb c m em af mf cf al nl cl D W5.drew:=⟨u0,u1,u2,p0,p1,p2,r3⟩;have yU:=oJ (rT mo eb c m em af mf cf al nl cl D) 0 W5.drew XU.o (dD XU.o LX.o.r (by decide));have yP:=oJ (rT mo eb c m em af mf cf al nl cl D) 0 W5.drew XP5.o (dD XP5.o LX.o.r (by decide));have yR:=oJ (rT mo eb c m em af mf cf al nl cl D) 0 W5.drew R5.o.rb (dD R5.o.rb LX.o.r (by decide));have S6:LnS gU gP g eb c m em af mf cf al nl cl D (W5.drew.setCells gR 0 (rT mo eb c m em af mf cf al nl cl D).toArray.toList):=⟨bM (j:=0) yU rfl,bM (j:=1) yU rfl,bM (j:=2) yU rfl,bM (j:=0) yP rfl,bM (j:=1) yP rfl,bM (j:=2) yP rfl,bM (j:=3) yR rfl⟩;clear yU yP yR u0 u1 u2 p0 p1 p2 r3;refine wd_ (S:=LnS gU gP g eb c m em af mf cf al nl cl D) (by kernel_rfl) S1 (fun dF=>?_);refine Q9 0 ?_
     refine Q9 1 ?_
     refine Q9 2 ?_
     refine Q9 3 ?_
     refine Q9 4 ?_
     refine Q9 5 ?_
     refine Q9 6 ?_
     refine wpAnyH_take (i:=7) (v:=.agg (rT mo eb c m em af mf cf al nl cl D).toArray) rfl (by kernel_rfl) (by kernel_rfl) (by kernel_rfl) (fun _ _ _ h=>h) (Cy (by rfl) 85 (.tmp 42) (.tmp 43) (.tmp 44) (.tmp 48) (I_ mo) (.agg #[I_ eb,I_ c,I_ m]) (.agg #[.bool em,.slice af mf cf,.slice al nl cl]) (.bool D) rfl rfl rfl rfl rfl _ (PZ _ _ _ _ _ _ _ _ _ _ _ _)) (by assumption) ?_
     try simp only [nU,Act.put]
     refine bW 8 ?_
     refine fq 9 (fun K hK=>?_);refine vH rfl 85 (.tmp 2) (.tmp 49) rfl gR 0 (rT mo eb c m em af mf cf al nl cl D).toArray rfl rfl (rQ LX.o.r) (by kernel_rfl) (oc_ zD) ?_
     refine hK.out _ _ S6 (fun fV=>?_);clear hK K
     try simp only [gt_,List.getElem_cons_succ,cz_,Act.put]
     refine fq 10 (fun K hK=>?_)
     go_simp
     refine hK.out _ _ fV (fun lh=>?_);clear hK K;refine wpAnyH_done (by kernel_rfl) ?_ _;clear dF fV lh;go_wp2;exact br_ (by simp [results,Tryz.results114,asAddr,Result.andThen,ld]) rfl FIN.o
end Go.Proofs.YtmccnmgaoppogaaGreat
