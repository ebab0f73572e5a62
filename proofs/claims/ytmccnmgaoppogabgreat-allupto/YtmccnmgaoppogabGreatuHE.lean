import Derived.Test.YtmccnmgaoppogabGreatuHB
namespace Go.Proofs.YtmccnmgaoppogabGreat
open Pu
set_option linter.all false
open Go.Proofs.Tryz Tryz
set_option maxRecDepth 100000
set_option maxHeartbeats 8000000
open Go.RowKit
def ClR(s:Y_)(j:Nat)(T:Nat->Bool)(D:Bool)(k:Nat)(b:Nat->Bool)(a:Bool):Prop:=aj s j T D k b a\/(j+1=k/\Pu.dN s j=93/\T=b/\D=a)
theorem Fx(B g i k:Nat)(s:Y_)(ns:List aF)(y:V_)(z:Option Addr)(f A:Nat)(a down:Int)(T:Nat->Bool)(D:Bool)(w:W_)(neg:Bool)(H:neg=decide (Pu.dN s i=94))(h:Dr B g s i ns y (.slice z f A) a down w)(hs:s.size<=400)(hl:ns.length<=10000)
  (hc:aj s (if Pu.dN s i=94 then i+1 else i) Pu.dW false k T D) :
  Calls prog 157 #[p_ g] w (aaa B g s k ns.length (ns++[⟨1,0,0,if neg then nL T else T⟩]) (.slice z f A) a (Pu.dX f D down) w):=by
 have BL:=h.lt;have zv:=nA;have beg:=hc.beg;have i1:i<s.size:=by
  by_cases e:Pu.dN s i=94
  .exact Pu.fK (s:=s) (i:=i) (by rw[e];decide)
  .rw [if_neg e]at beg;exact beg.2.1
 have ks:=beg.2.2;have C0:=bL (DC.new h (Dk.refl B w) BL);have SB:=bL (Dp 1);have x0:=fun w=>eB s (i:Int) i rfl o_ w;have j0:=jJ i;have j1:(i:Int)<s.size:=o_;have wi:=kZ i;have HC:=bL hc;rw[mM i1]at H HC;generalize bt s i=b at *;clear h hc beg;go_in;go_upto_region 2 with (first | (refine pG rfl 181 0 (.const (.int .i64 1)) (I_ 1) rfl rfl _ SB.o ?_) | (refine ws_ rfl 181 (.tmp 3) (.tmp 9) rfl w.heap.size 0 (dS ⟨1,0,0,Pu.dW⟩).toArray rfl rfl (jC _) (nk _) (oc_ (jf _)) ?_));have C1:=C0;clear C0 zv SB;generalize (w.alloc (c_ zm.toArray 181)).setCells w.heap.size 0 (dS ⟨1,0,0,Pu.dW⟩)=W1 at *;generalize w.heap.size=v at *;have c4:=bQ 4 C1.o.dr.rb rfl;have c5:=bQ 5 C1.o.dr.rb rfl;by_cases G:b=94;focus
  subst G;rw[if_pos rfl]at HC;rw[dt_ rfl]at H;subst H;go_wp2_with fail;go_quiet (fail);have O:=bL (C1.o.below (bd_ (Br_ W1.heap.size W1) nq));clear C1 c4 c5 x0;generalize W1.drewN nq=W2 at *;have c5:=bQ 5 O.o.dr.rb rfl;have f5:=bM O.o.dr.rb 5;have C2:Hid (DC B g s (i+1) ns y (.slice z f A) a down w v Pu.dW (W2.setCell (a_ g 5) (I_ ((i:Int)+1)))):=O.o.fD (gs_ _ _ _ _) (O.o.dr.rb.at (i+1));go_wp2_with fail;clear c5 f5 O;generalize W2.setCell (a_ g 5) (I_ ((i:Int)+1))=W3 at *;obtain⟨aS,S⟩:∃q,Hid (q=i+1):=⟨_,bL rfl⟩
 rotate_left;focus
  have e94:(b == 94)=false:=by simpa using G
  rw[if_neg G]at HC;rw[dn_ G]at H;subst H;clear G;go_wp2_with fail;go_quiet (fail);have C2:=bL (C1.o.below (bd_ (Br_ W1.heap.size W1) nq));clear C1 c4 c5 x0 e94;generalize W1.drewN nq=W2 at *;go_wp2_with fail;obtain⟨aS,S⟩:∃q,Hid (q=i):=⟨_,bL rfl⟩
 rotate_left;all_goals
  go_loopg [5,6,7] (s.size-aS) (fun gk _ _ _ Y=>∃j d l,j<=s.size/\gk=s.size-j/\DC B g s j ns y (.slice z f A) a (Pu.dX f l down) w v d Y/\ClR s j d l k T D);case atStart=>exact⟨aS,Pu.dW,false,by rw[S.o];omega,rfl,by rw[zh,S.o];exact C2.o,.inl (by rw[S.o];exact HC.o)⟩
  case' round=>
   clear C2 HC S;obtain⟨C,d,l,jl,rfl,hC,ano⟩:=hrel;have C3:=bL hC;have y4:=bQ 4 hC.dr.rb rfl;have y5:=bQ 5 hC.dr.rb rfl;clear hC;rcases ano with hcl | ⟨hk,MX,rfl,rfl⟩
   .have jlt:=hcl.beg.2.1;have n93:=hcl.beg.1;rw[mM jlt]at n93;have xj:=fun w=>eB s (C:Int) C rfl o_ w;have jj0:=jJ C;have jj1:(C:Int)<s.size:=o_;have e93:(bt s C != 93)=true:=by simpa using n93
    have HCL:=bL hcl;clear hcl n93;generalize bt s C=bj at *;go_wp2_with fail;go_quiet (fail);have Z:=bL (C3.o.below (bd_ (Br_ wr.heap.size wr) nq));clear C3 y4 y5 xj e93;generalize wr.drewN nq=W4 at *;obtain⟨t,lo,p,r,hit,abj⟩:∃t lo p r,ay s C t lo p r/\ClR s t (Pu.wid d lo p) (l || decide (p<lo)) k T D:=by
     cases HCL.o with
     | done h1 h2=>exact⟨_,_,_,_,h1,.inr ⟨rfl,h2,rfl,rfl⟩⟩
     | more h1 h2 h3=>exact⟨_,_,_,_,h1,.inl h3⟩
    have ib:=hit.bd;have il:=hit.lt;have ile:=hit.le;have j2s:t<s.size:=by
     rcases abj with h | ⟨_,h,_⟩
     .exact h.beg.2.1
     .exact Pu.fK (s:=s) (i:=t) (by rw[h];decide)
    have REM:=bL abj;clear abj HCL;cases hit with
    | one X W=>?_
    | range X h45 OH=>?_
    have SG:=bL (wU g C t s y _ a _ lo W4 Z.o.dr.rb o_ X);rw[mM j2s]at W;have xk:=fun w=>eB s (t:Int) t rfl o_ w;have k0:=jJ t;have k1:(t:Int)<s.size:=o_;have e45:(bt s t == 45)=false:=by simpa using W
    generalize bt s t=b2 at *;clear X W;rotate_left;rename_i N;have jms:N<s.size:=Pu.fK (s:=s) (i:=N) (by rw[h45];decide);have SG:=bL (wU g C N s y _ a _ lo W4 Z.o.dr.rb o_ X);rw[mM jms]at h45;have xk:=fun w=>eB s (N:Int) N rfl o_ w;rw[h45]at xk;have k0:=jJ N;have k1:(N:Int)<s.size:=o_;have wm:=kZ N;have HS2:=bL OH;clear X OH h45;rotate_left;all_goals
     go_wp2_with fail;refine SG.o.mono ?_;clear SG;rintro e w5 ⟨rfl,hg5,hr5⟩;have C5:=bL (Z.o.fD hg5 hr5);clear hg5 hr5 Z;have y4:=bQ 4 C5.o.dr.rb rfl;have y5:=bQ 5 C5.o.dr.rb rfl;go_wp2_with fail;go_quiet (fail)
    .have K:=bL (C5.o.below (bd_ (Br_ w5.heap.size w5) nq));clear C5 y4 y5 xk e45;generalize w5.drewN nq=W6 at *;have I:¬lo<lo:=o_;have g1:decide (lo<lo)=false:=dn_ I;have CX:Hid (DC B g s t ns y (.slice z f A) a (Pu.dX f (l || decide (lo<lo)) down) w v d W6):=by rw[g1,Bool.or_false];exact K.o
     clear K I;go_wp2_with fail;have F:(0:Int)<=lo:=o_;have cI:Hid (∃c:Nat,(I_ lo:V_)=I_ c/\lo<=(c:Int)/\((c:Int)<=lo+1\/(c:Int)=lo)/\(256-lo).toNat=256-c/\c<=256/\DC B g s t ns y (.slice z f A) a (Pu.dX f (l || decide (lo<lo)) down) w v (Pu.wid d lo ((c:Int)-1)) W6):=by refine⟨lo.toNat,by rw[Int.toNat_of_nonneg F],o_,.inr o_,o_,o_,?_⟩;rw[Int.toNat_of_nonneg F,pF d o_];exact CX.o
     clear CX;go_loopg [7] ((256-lo).toNat) (fun gk kv Y=>∃c:Nat,kv=I_ c/\lo<=(c:Int)/\((c:Int)<=lo+1\/(c:Int)=lo)/\gk=256-c/\c<=256/\DC B g s t ns y (.slice z f A) a (Pu.dX f (l || decide (lo<lo)) down) w v (Pu.wid d lo ((c:Int)-1)) Y);exact cI.o;clear cI;obtain⟨c,rfl,c1,c2,rfl,c3,J⟩:=hrel;have x:=bL J;clear J;by_cases E:(c:Int)<=lo
     .have d1:decide ((c:Int)<=lo)=true:=dt_ E;have ic0:=jJ c;have ic1:(c:Int)<256:=o_;have wc:=kZ c;have xc:=bN (j:=3+c) x.o.x (by
       rw[(o_:3+c=c+1+1+1)];show (dD _)[c]?=_;exact iq _ o_)
      have fc:=bM x.o.x (3+c);have D2:Hid (DC B g s t ns y (.slice z f A) a (Pu.dX f (l || decide (lo<lo)) down) w v (Pu.wid d lo (((c+1:Nat):Int)-1)) (wr.setCell (a_ v (3+c)) (.bool true))):=by have:=x.o.bit c true;rw[Ia d lo c c1]at this;rw[show ((c+1:Nat):Int)-1=(c:Int) by omega];exact this
      generalize Pu.wid d lo ((c:Int)-1) c=oldb at *;go_wp2;go_roundg (256-(c+1));exact⟨c+1,by go_num,o_,.inl o_,rfl,o_,D2.o⟩;omega
     .have d1:decide ((c:Int)<=lo)=false:=dn_ E;have EW:Hid (Pu.wid d lo ((c:Int)-1)=Pu.wid d lo lo):=by
       show _=_;rcases c2 with e | e
       .rw [(o_:(c:Int)-1=lo)]
       .rw [pF d o_,pF d o_]
      have CF:Hid (DC B g s t ns y (.slice z f A) a (Pu.dX f (l || decide (lo<lo)) down) w v (Pu.wid d lo lo) wr):=by have:=x.o;rw[EW.o]at this;exact this
      clear x EW;go_wp2;go_roundg (s.size-t);exact⟨t,Pu.wid d lo lo,l || decide (lo<lo),o_,rfl,CF.o,REM.o⟩;omega
    .have C6:=bL (C5.o.below (bd_ (Br_ w5.heap.size w5) nq));clear C5 y4 y5 xk;generalize w5.drewN nq=W6 at *;have y5:=bQ 5 C6.o.dr.rb rfl;have f5:=bM C6.o.dr.rb 5;have C7:Hid (DC B g s (N+1) ns y (.slice z f A) a (Pu.dX f l down) w v d (W6.setCell (a_ g 5) (I_ ((N:Int)+1)))):=C6.o.fD (gs_ _ _ _ _) (C6.o.dr.rb.at (N+1));go_wp2_with fail;clear y5 f5 C6;generalize W6.setCell (a_ g 5) (I_ ((N:Int)+1))=W7 at *;refine (wU g (N+1) t s y _ a _ p W7 C7.o.dr.rb o_ HS2.o).mono ?_;rintro e w8 ⟨rfl,hg8,hr8⟩;have K:=bL (C7.o.fD hg8 hr8);clear hg8 hr8 C7 HS2;by_cases I:p<lo
     .have g1:decide (p<lo)=true:=dt_ I;by_cases L:Pu.dX f l down<0;have g2:decide (Pu.dX f l down<0)=true:=dt_ L;have r3:=bQ 3 K.o.dr.rb rfl;have rf3:=bM K.o.dr.rb 3;have r2:=bQ 2 K.o.dr.rb rfl;have UP:Hid (Pu.dX f (l || true) down=f):=by show _=_;rw[<-MJ (by omega:(0:Int)<=f) l true down];unfold Pu.dX at L |-;rw[if_pos ⟨rfl,L⟩]
      have CX:Hid (DC B g s t ns y (.slice z f A) a (Pu.dX f (l || decide (p<lo)) down) w v d (w8.setCell (a_ g 3) (I_ f))):=by have:=K.o.fD (gs_ w8 g 3 (I_ f)) (K.o.dr.rb.dn f);rw[g1,UP.o];exact this
      rotate_left;have g2:decide (Pu.dX f l down<0)=false:=dn_ L;have r3:=bQ 3 K.o.dr.rb rfl;have UP:Hid (Pu.dX f (l || true) down=Pu.dX f l down):=by show _=_;rw[<-MJ (by omega:(0:Int)<=f) l true down];generalize Pu.dX f l down=ud at *;unfold Pu.dX;rw[if_neg (fun h=>L h.2)]
      have CX:Hid (DC B g s t ns y (.slice z f A) a (Pu.dX f (l || decide (p<lo)) down) w v d w8):=by rw[g1,UP.o];exact K.o
      rotate_left;all_goals
       generalize hud:Pu.dX f l down=ud at r3 g2;clear K UP I L hud;go_wp2_with fail
      clear r2 r3 rf3 g2;generalize w8.setCell (a_ g 3) (I_ f)=WX at *;have F:(0:Int)<=lo:=o_;have cI:Hid (∃c:Nat,(I_ lo:V_)=I_ c/\lo<=(c:Int)/\((c:Int)<=p+1\/(c:Int)=lo)/\(256-lo).toNat=256-c/\c<=256/\DC B g s t ns y (.slice z f A) a (Pu.dX f (l || decide (p<lo)) down) w v (Pu.wid d lo ((c:Int)-1)) WX):=by refine⟨lo.toNat,by rw[Int.toNat_of_nonneg F],o_,.inr o_,o_,o_,?_⟩;rw[Int.toNat_of_nonneg F,pF d o_];exact CX.o
      rotate_left;focus
       clear r3 g2;have F:(0:Int)<=lo:=o_;have cI:Hid (∃c:Nat,(I_ lo:V_)=I_ c/\lo<=(c:Int)/\((c:Int)<=p+1\/(c:Int)=lo)/\(256-lo).toNat=256-c/\c<=256/\DC B g s t ns y (.slice z f A) a (Pu.dX f (l || decide (p<lo)) down) w v (Pu.wid d lo ((c:Int)-1)) w8):=by refine⟨lo.toNat,by rw[Int.toNat_of_nonneg F],o_,.inr o_,o_,o_,?_⟩;rw[Int.toNat_of_nonneg F,pF d o_];exact CX.o
      all_goals
       clear CX;go_loopg [7] ((256-lo).toNat) (fun gk kv Y=>∃c:Nat,kv=I_ c/\lo<=(c:Int)/\((c:Int)<=p+1\/(c:Int)=lo)/\gk=256-c/\c<=256/\DC B g s t ns y (.slice z f A) a (Pu.dX f (l || decide (p<lo)) down) w v (Pu.wid d lo ((c:Int)-1)) Y);exact cI.o;clear cI;obtain⟨c,rfl,c1,c2,rfl,c3,J⟩:=hrel;have x:=bL J;clear J;by_cases E:(c:Int)<=p
       .have d1:decide ((c:Int)<=p)=true:=dt_ E;have ic0:=jJ c;have ic1:(c:Int)<256:=o_;have wc:=kZ c;have xc:=bN (j:=3+c) x.o.x (by
         rw[(o_:3+c=c+1+1+1)];show (dD _)[c]?=_;exact iq _ o_)
        have fc:=bM x.o.x (3+c);have D2:Hid (DC B g s t ns y (.slice z f A) a (Pu.dX f (l || decide (p<lo)) down) w v (Pu.wid d lo (((c+1:Nat):Int)-1)) (wr.setCell (a_ v (3+c)) (.bool true))):=by have:=x.o.bit c true;rw[Ia d lo c c1]at this;rw[show ((c+1:Nat):Int)-1=(c:Int) by omega];exact this
        generalize Pu.wid d lo ((c:Int)-1) c=oldb at *;go_wp2;go_roundg (256-(c+1));exact⟨c+1,by go_num,o_,.inl o_,rfl,o_,D2.o⟩;omega
       .have d1:decide ((c:Int)<=p)=false:=dn_ E;have EW:Hid (Pu.wid d lo ((c:Int)-1)=Pu.wid d lo p):=by
         show _=_;rcases c2 with e | e
         .rw [(o_:(c:Int)-1=p)]
         .rw [pF d o_,pF d o_]
        have CF:Hid (DC B g s t ns y (.slice z f A) a (Pu.dX f (l || decide (p<lo)) down) w v (Pu.wid d lo p) wr):=by have:=x.o;rw[EW.o]at this;exact this
        clear x EW;go_wp2;go_roundg (s.size-t);exact⟨t,Pu.wid d lo p,l || decide (p<lo),o_,rfl,CF.o,REM.o⟩;omega
     .have g1:decide (p<lo)=false:=dn_ I;have CX:Hid (DC B g s t ns y (.slice z f A) a (Pu.dX f (l || decide (p<lo)) down) w v d w8):=by rw[g1,Bool.or_false];exact K.o
      clear K I;go_wp2_with fail;have F:(0:Int)<=lo:=o_;have cI:Hid (∃c:Nat,(I_ lo:V_)=I_ c/\lo<=(c:Int)/\((c:Int)<=p+1\/(c:Int)=lo)/\(256-lo).toNat=256-c/\c<=256/\DC B g s t ns y (.slice z f A) a (Pu.dX f (l || decide (p<lo)) down) w v (Pu.wid d lo ((c:Int)-1)) w8):=by refine⟨lo.toNat,by rw[Int.toNat_of_nonneg F],o_,.inr o_,o_,o_,?_⟩;rw[Int.toNat_of_nonneg F,pF d o_];exact CX.o
      clear CX;go_loopg [7] ((256-lo).toNat) (fun gk kv Y=>∃c:Nat,kv=I_ c/\lo<=(c:Int)/\((c:Int)<=p+1\/(c:Int)=lo)/\gk=256-c/\c<=256/\DC B g s t ns y (.slice z f A) a (Pu.dX f (l || decide (p<lo)) down) w v (Pu.wid d lo ((c:Int)-1)) Y);exact cI.o;clear cI;obtain⟨c,rfl,c1,c2,rfl,c3,J⟩:=hrel;have x:=bL J;clear J;by_cases E:(c:Int)<=p
      .have d1:decide ((c:Int)<=p)=true:=dt_ E;have ic0:=jJ c;have ic1:(c:Int)<256:=o_;have wc:=kZ c;have xc:=bN (j:=3+c) x.o.x (by
        rw[(o_:3+c=c+1+1+1)];show (dD _)[c]?=_;exact iq _ o_)
       have fc:=bM x.o.x (3+c);have D2:Hid (DC B g s t ns y (.slice z f A) a (Pu.dX f (l || decide (p<lo)) down) w v (Pu.wid d lo (((c+1:Nat):Int)-1)) (wr.setCell (a_ v (3+c)) (.bool true))):=by have:=x.o.bit c true;rw[Ia d lo c c1]at this;rw[show ((c+1:Nat):Int)-1=(c:Int) by omega];exact this
       generalize Pu.wid d lo ((c:Int)-1) c=oldb at *;go_wp2;go_roundg (256-(c+1));exact⟨c+1,by go_num,o_,.inl o_,rfl,o_,D2.o⟩;omega
      .have d1:decide ((c:Int)<=p)=false:=dn_ E;have EW:Hid (Pu.wid d lo ((c:Int)-1)=Pu.wid d lo p):=by
        show _=_;rcases c2 with e | e
        .rw [(o_:(c:Int)-1=p)]
        .rw [pF d o_,pF d o_]
       have CF:Hid (DC B g s t ns y (.slice z f A) a (Pu.dX f (l || decide (p<lo)) down) w v (Pu.wid d lo p) wr):=by have:=x.o;rw[EW.o]at this;exact this
       clear x EW;go_wp2;go_roundg (s.size-t);exact⟨t,Pu.wid d lo p,l || decide (p<lo),o_,rfl,CF.o,REM.o⟩;omega
 all_goals
  have jlt:C<s.size:=Pu.fK (s:=s) (i:=C) (by rw[MX];decide);rw[mM jlt]at MX;have xj:=fun w=>eB s (C:Int) C rfl o_ w;rw[MX]at xj;have jj0:=jJ C;have jj1:(C:Int)<s.size:=o_;have wj:=kZ C;have HJK:=bL hk;clear hk MX;go_wp2_with fail;go_quiet (fail);have Z:=bL (C3.o.below (bd_ (Br_ wr.heap.size wr) nq));clear C3 y4 y5 xj;generalize wr.drewN nq=W4 at *;have y5:=bQ 5 Z.o.dr.rb rfl;have f5:=bM Z.o.dr.rb 5;have C6:Hid (DC B g s (C+1) ns y (.slice z f A) a (Pu.dX f l down) w v d (W4.setCell (a_ g 5) (I_ ((C:Int)+1)))):=Z.o.fD (gs_ _ _ _ _) (Z.o.dr.rb.at (C+1));go_wp2_with fail;clear y5 f5 Z;generalize W4.setCell (a_ g 5) (I_ ((C:Int)+1))=W5 at *
 .go_loopg [8] 256 (fun gk kv Y=>∃c:Nat,c<=256/\gk=256-c/\kv=I_ c/\DC B g s (C+1) ns y (.slice z f A) a (Pu.dX f l down) w v (lW d (fun n=>d n != true) c) Y);exact⟨0,zl_ _,rfl,rfl,by rw[vP];exact C6.o⟩;clear C6;obtain⟨c,Bq,rfl,rfl,J⟩:=hrel;have x:=bL J;clear J;by_cases E:c<256
  .have d1:decide ((c:Int)<256)=true:=dt_ o_;have ic0:=jJ c;have ic1:(c:Int)<256:=o_;have wc:=kZ c;have xc:wr.cell? (a_ v (3+c))=some (.bool (d c)):=by
    have:=bN (j:=3+c) x.o.x (u:=.bool (d c)) (by
     rw[(o_:3+c=c+1+1+1)];show (dD _)[c]?=_;rw[iq _ E];simp[lW])
    exact this
   have fc:=bM x.o.x (3+c);have D2:Hid (DC B g s (C+1) ns y (.slice z f A) a (Pu.dX f l down) w v (lW d (fun n=>d n != true) (c+1)) (wr.setCell (a_ v (3+c)) (.bool (d c != true)))):=by
    have:=x.o.bit c (d c != true);have e:(fun n=>if n=c then (d c != true) else lW d (fun n=>d n != true) c n)=lW d (fun n=>d n != true) (c+1):=by
     funext n;unfold lW;by_cases e:n=c
     .subst e;simp
     .by_cases h2:n<c
      .have h3:n<c+1:=o_;simp[e,h2,h3]
      .have h3:¬n<c+1:=o_;simp[e,h2,h3]
    rw[e]at this;exact this
   generalize d c=tc at *;cases tc;all_goals
    go_wp2;go_roundg (256-(c+1));exact⟨c+1,o_,rfl,by go_num,D2.o⟩;omega
  .have d1:decide ((c:Int)<256)=false:=dn_ o_;have e:c=256:=o_;subst e;have Q:Hid (dS ⟨1,0,0,lW d (fun n=>d n != true) 256⟩=dS ⟨1,0,0,(nL d)⟩):=by show _=_;unfold dS;simp only;rw[yh];congr 4;funext n;simp[nL]
   have HX:=bL x.o.there;rw[Q.o]at HX;clear Q;generalize hU:(nL d)=U at *;go_wp2_with (refine wl_ rfl 181 (.tmp 3) rfl v 0 rfl (dS ⟨1,0,0,U⟩) _ HX.o underlying181 rfl (by rw[iA];exact iH) ?_);refine (pq B g (C+1) s ns y (.slice z f A) a (Pu.dX f l down) ⟨1,0,0,U⟩ wr x.o.dr hl).mono ?_;rintro e w9 ⟨rfl,V,vn9,R⟩;have K9:=bL (x.o.dk.trans V);have D9:=bL R;clear V R HX;go_wp2;go_ret;exact⟨rfl,K9.o,vn9,by rw[<-HJK.o];first | exact D9.o | (rw[if_pos rfl];exact D9.o) | (rw[if_neg d_];exact D9.o)⟩
 .go_loopg [8] 256 (fun gk kv Y=>∃c:Nat,c<=256/\gk=256-c/\kv=I_ c/\DC B g s (C+1) ns y (.slice z f A) a (Pu.dX f l down) w v (lW d (fun n=>d n != false) c) Y);exact⟨0,zl_ _,rfl,rfl,by rw[vP];exact C6.o⟩;clear C6;obtain⟨c,Bq,rfl,rfl,J⟩:=hrel;have x:=bL J;clear J;by_cases E:c<256
  .have d1:decide ((c:Int)<256)=true:=dt_ o_;have ic0:=jJ c;have ic1:(c:Int)<256:=o_;have wc:=kZ c;have xc:wr.cell? (a_ v (3+c))=some (.bool (d c)):=by
    have:=bN (j:=3+c) x.o.x (u:=.bool (d c)) (by
     rw[(o_:3+c=c+1+1+1)];show (dD _)[c]?=_;rw[iq _ E];simp[lW])
    exact this
   have fc:=bM x.o.x (3+c);have D2:Hid (DC B g s (C+1) ns y (.slice z f A) a (Pu.dX f l down) w v (lW d (fun n=>d n != false) (c+1)) (wr.setCell (a_ v (3+c)) (.bool (d c != false)))):=by
    have:=x.o.bit c (d c != false);have e:(fun n=>if n=c then (d c != false) else lW d (fun n=>d n != false) c n)=lW d (fun n=>d n != false) (c+1):=by
     funext n;unfold lW;by_cases e:n=c
     .subst e;simp
     .by_cases h2:n<c
      .have h3:n<c+1:=o_;simp[e,h2,h3]
      .have h3:¬n<c+1:=o_;simp[e,h2,h3]
    rw[e]at this;exact this
   generalize d c=tc at *;cases tc;all_goals
    go_wp2;go_roundg (256-(c+1));exact⟨c+1,o_,rfl,by go_num,D2.o⟩;omega
  .have d1:decide ((c:Int)<256)=false:=dn_ o_;have e:c=256:=o_;subst e;have Q:Hid (dS ⟨1,0,0,lW d (fun n=>d n != false) 256⟩=dS ⟨1,0,0,d⟩):=by show _=_;unfold dS;simp only;rw[yh];congr 4;funext n;simp
   have HX:=bL x.o.there;rw[Q.o]at HX;clear Q;generalize hU:d=U at *;go_wp2_with (refine wl_ rfl 181 (.tmp 3) rfl v 0 rfl (dS ⟨1,0,0,U⟩) _ HX.o underlying181 rfl (by rw[iA];exact iH) ?_);refine (pq B g (C+1) s ns y (.slice z f A) a (Pu.dX f l down) ⟨1,0,0,U⟩ wr x.o.dr hl).mono ?_;rintro e w9 ⟨rfl,V,vn9,R⟩;have K9:=bL (x.o.dk.trans V);have D9:=bL R;clear V R HX;go_wp2;go_ret;exact⟨rfl,K9.o,vn9,by rw[<-HJK.o];first | exact D9.o | (rw[if_pos rfl];exact D9.o) | (rw[if_neg d_];exact D9.o)⟩
namespace Pu
def aH.sz:aH->Nat
 | .QU a _=>a.size
 | .Aq a _=>a.size
 | .zS a _=>a.size
 | _=>0
def aH.un:aH->Nat
 | .QU _ _=>0
 | .Aq _ _=>0
 | .zS _ _=>0
 | _=>1
theorem P.size{s:Y_}{t:aH}{i j:Nat}{a:aM}{D:Bool}(h:P s t i j a D):a.size+2*i+t.un<=t.sz+2*j:=by
 induction h with
 | any=>simp[aM.size,aH.sz,aH.un];omega
 | U6=>simp[aM.size,aH.sz,aH.un];omega
 | xC=>simp[aM.size,aH.sz,aH.un];omega
 | cls _ _ h=>have:=h.lt;simp[aM.size,aH.sz,aH.un];omega
 | yj _ _ h=>have:=h.lt;simp[aM.size,aH.sz,aH.un];omega
 | Oz _ _ _ d=>simp only[aH.sz,aH.un]at d |-;omega
 | GQ=>simp[aH.sz,aH.un]
 | star _ _ d=>simp only[aH.sz,aH.un,aM.size]at d |-;omega
 | plus _ _ d=>simp only[aH.sz,aH.un,aM.size]at d |-;omega
 | opt _ _ d=>simp only[aH.sz,aH.un,aM.size]at d |-;omega
 | pc _ _ b c=>simp only[aH.sz,aH.un]at b c |-;omega
 | Lb=>simp[aH.sz,aH.un]
 | Aq _ _ _ b c=>simp only[aH.sz,aH.un,aM.size]at b c |-;omega
 | br _ _ b c=>simp only[aH.sz,aH.un]at b c |-;omega
 | IK=>simp[aH.sz,aH.un]
 | zS _ _ _ b c=>simp only[aH.sz,aH.un,aM.size]at b c |-;omega
 | pa _ _ b c=>simp only[aH.sz,aH.un]at b c |-;omega
def ZH(s:Y_):aH->Nat->Prop
 | .pc,j=>j<s.size
 | .br,j=>dN s j=32\/dN s j=124\/dN s j=41
 | .pa,j=>dN s j=32\/dN s j=41
 | _,_=>True
end Pu
def DOK(f:Nat)(nt:aH)(s:Y_)(i:Nat):Prop:=
 ∀(j:Nat) (d:aM) (D:Bool),Pu.P s nt i j d D->ZH s nt j->∀(B g:Nat) (b:List aF) (k:V_) (e:Option Addr) (c h:Nat) (a down:Int) (w:W_),Dr B g s i b k (.slice e c h) a down w->b.length<=2*i->
  C_ f #[p_ g] w (aaa B g s j (b.length+d.size-1) (b++Pu.nodes d b.length) (.slice e c h) a (Pu.dX c D down) w)
theorem DC.fin{B g k:Nat}{s:Y_}{ns:List aF}{d c:V_}{a down:Int}{w:W_}{b:Nat}{T U:Nat->Bool}{W:W_}(h:DC B g s k ns d c a down w b T W)(e:dD T=dD U):W.rangeAt b 0 (dS ⟨1,0,0,U⟩):=by
 have:=h.there;unfold dS at this |-
 simp only at this |-
 rw[e]at this;exact this
theorem aas{T U:Nat->Bool}(h:∀n,n<256->T n=U n):dD T=dD U:=by
 apply List.ext_getElem?;intro i;by_cases a:i<256
 .rw [iq _ a,iq _ a,h i a]
 .rw [gn_ (by rw[cZ];omega),gn_ (by rw[cZ];omega)]
theorem Od(s:Y_)(i:Nat)(PA:i<s.size->DOK 105 .pa s (i+1))(hs:s.size<=400):DOK 151 .atom s i:=by
 intro j re D hP _ B g t r p l q a down w h hl;have Q:=h.lt;have Z:=nA;have S:=bL (Dp 1);have sz:=hP.size;simp only[aH.sz,aH.un]at sz;have i1:i<s.size:=by
  cases hP with
  | any b=>exact Pu.fK (s:=s) (i:=i) (by rw[b];decide)
  | U6 b _ _ _ _=>exact Pu.fK (s:=s) (i:=i) (fun e=>b (by rw[e];decide))
  | xC b _=>exact Pu.fK (s:=s) (i:=i) (by rw[b];decide)
  | cls b _ _=>exact Pu.fK (s:=s) (i:=i) (by rw[b];decide)
  | yj b _ _=>exact Pu.fK (s:=s) (i:=i) (by rw[b];decide)
  | Oz b _ _=>exact Pu.fK (s:=s) (i:=i) (by rw[b];decide)
 have A:=fun w=>eB s (i:Int) i rfl o_ w;have j0:=jJ i;have j1:(i:Int)<s.size:=o_;have wi:=kZ i;have O:=mM i1;rw[<-O]at A;have f:=bd_ (Br_ w.heap.size w);have Y:=bQ 4 h.rb rfl;have x:=bQ 5 h.rb rfl;have G:=bL h;have PA:=bL PA;clear h;cases hP with
 | any K=>
  rw[K]at A;clear O sz;go_enter func151,ntmps151;go_wp2_with fail;go_quiet (fail);have dn:=f nq;have d:=bL (G.o.below dn);have u:Hid (Dk B w (w.drewN nq)):=.below Q dn;clear dn f Y x G A;generalize w.drewN nq=k at *;have x:=bQ 5 d.o.rb rfl;have L:=bM d.o.rb 5;have b:=gs_ k g 5 (I_ ((i:Int)+1));have C:Hid (Dr B g s (i+1) t r (.slice p l q) a down (k.setCell (a_ g 5) (I_ ((i:Int)+1)))):=d.o.fD b (d.o.rb.at (i+1));have E:=bL (u.o.trans (d.o.dk b));clear b;have b:=bL (DC.new C.o E.o Q);go_upto_region 12 with (fail);clear x L d u C E;generalize k.setCell (a_ g 5) (I_ ((i:Int)+1))=z at *;go_wp2_with (first | (refine pG rfl 181 0 (.const (.int .i64 1)) (I_ 1) rfl rfl _ S.o ?_) | (refine ws_ rfl 181 (.tmp 4) (.tmp 56) rfl z.heap.size 0 (dS ⟨1,0,0,Pu.dW⟩).toArray rfl rfl (jC _) (nk _) (oc_ (jf _)) ?_));clear Z S;generalize (z.alloc (c_ zm.toArray 181)).setCells z.heap.size 0 (dS ⟨1,0,0,Pu.dW⟩)=W3 at *;generalize z.heap.size=J at *;go_loopg [5] 256 (fun gk d e=>∃c:Nat,c<=256/\gk=256-c/\d=I_ c/\DC B g s (i+1) t r (.slice p l q) a down w J (lW Pu.dW (nL (jH 10)) c) e);exact⟨0,zl_ _,rfl,rfl,by rw[vP];exact b.o⟩;clear b;obtain⟨c,Bq,rfl,rfl,b⟩:=hrel;have R:=bL b;clear b;by_cases hlt:c<256
  .have E:decide ((c:Int)<256)=true:=dt_ o_;have ic0:=jJ c;have ic1:(c:Int)<256:=o_;have wc:=kZ c;have d:=bN (j:=3+c) R.o.x (by
    rw[(o_:3+c=c+1+1+1)];show (dD _)[c]?=_;exact iq _ hlt)
   have C:=bM R.o.x (3+c);have y:((c:Int) != 10)=nL (jH 10) c:=rfl;have v:Hid (DC B g s (i+1) t r (.slice p l q) a down w J (lW Pu.dW (nL (jH 10)) (c+1)) (wr.setCell (a_ J (3+c)) (.bool (nL (jH 10) c)))):=by
    have:=R.o.bit c (nL (jH 10) c);have e:(fun n=>if n=c then nL (jH 10) c else lW Pu.dW (nL (jH 10)) c n)=lW Pu.dW (nL (jH 10)) (c+1):=by
     funext n;unfold lW;by_cases e:n=c
     .subst e;simp
     .by_cases u:n<c
      .have b:n<c+1:=o_;simp[e,u,b]
      .have b:¬n<c+1:=o_;simp[e,u,b]
    rw[e]at this;exact this
   generalize lW Pu.dW (nL (jH 10)) c c=V at d;generalize nL (jH 10) c=nb at *;go_wp2;go_roundg (256-(c+1));exact⟨c+1,o_,rfl,by go_num,v.o⟩;omega
  .have E:decide ((c:Int)<256)=false:=dn_ o_;have e:c=256:=o_;subst e;have C:Hid (wr.rangeAt J 0 (dS ⟨1,0,0,nL (jH 10)⟩)):=R.o.fin (yh _ _);go_wp2_with (refine wl_ rfl 181 (.tmp 4) rfl J 0 rfl (dS ⟨1,0,0,nL (jH 10)⟩) _ C.o underlying181 rfl (by rw[iA];exact iH) ?_);refine (pq B g (i+1) s t r (.slice p l q) a down ⟨1,0,0,nL (jH 10)⟩ wr R.o.dr o_).mono ?_;rintro e W ⟨rfl,d,H,b⟩;have I:=bL (R.o.dk.trans d);have y:=bL b;clear d b C R;go_wp2;go_ret;exact⟨rfl,I.o,H,by rw[zh];exact y.o⟩
 | U6 hb U X V K=>?_
 | @xC _ v U hv=>?_
 | @cls _ _ T _ V F hc=>
  rw[V]at A;clear O sz;go_enter func151,ntmps151;go_wp2_with fail;go_quiet (fail);have dn:=f nq;have d:=bL (G.o.below dn);have u:Hid (Dk B w (w.drewN nq)):=.below Q dn;clear dn f Y x G A;generalize w.drewN nq=k at *;have x:=bQ 5 d.o.rb rfl;have L:=bM d.o.rb 5;have b:=gs_ k g 5 (I_ ((i:Int)+1));have C:Hid (Dr B g s (i+1) t r (.slice p l q) a down (k.setCell (a_ g 5) (I_ ((i:Int)+1)))):=d.o.fD b (d.o.rb.at (i+1));have E:=bL (u.o.trans (d.o.dk b));clear b;go_wp2_with fail;clear x L d u Z S;generalize k.setCell (a_ g 5) (I_ ((i:Int)+1))=z at *;refine (Fx B g (i+1) j s t r p l q a down T D z false (by rw[dn_ F]) C.o hs o_ (by rw[if_neg F];exact hc)).mono ?_;rintro e W ⟨rfl,d,H,b⟩;have I:=bL (E.o.trans d);have y:=bL b;clear d b C E;go_wp2;go_ret;exact⟨rfl,I.o,H,y.o⟩
 | @yj _ _ T _ V F hc=>
  rw[V]at A;clear O sz;go_enter func151,ntmps151;go_wp2_with fail;go_quiet (fail);have dn:=f nq;have d:=bL (G.o.below dn);have u:Hid (Dk B w (w.drewN nq)):=.below Q dn;clear dn f Y x G A;generalize w.drewN nq=k at *;have x:=bQ 5 d.o.rb rfl;have L:=bM d.o.rb 5;have b:=gs_ k g 5 (I_ ((i:Int)+1));have C:Hid (Dr B g s (i+1) t r (.slice p l q) a down (k.setCell (a_ g 5) (I_ ((i:Int)+1)))):=d.o.fD b (d.o.rb.at (i+1));have E:=bL (u.o.trans (d.o.dk b));clear b;go_wp2_with fail;clear x L d u Z S;generalize k.setCell (a_ g 5) (I_ ((i:Int)+1))=z at *;refine (Fx B g (i+1) j s t r p l q a down T D z true (by rw[dt_ F]) C.o hs o_ (by rw[if_pos F];exact hc)).mono ?_;rintro e W ⟨rfl,d,H,b⟩;have I:=bL (E.o.trans d);have y:=bL b;clear d b C E;go_wp2;go_ret;exact⟨rfl,I.o,H,y.o⟩
 | @Oz _ N _ _ X C u=>
  rw[X]at A;have j2s:N<s.size:=Pu.fK (s:=s) (i:=N) (by rw[u];decide);have fE:=bL (fun d (b:Dr B g s (i+1) t r (.slice p l q) a down d)=>PA.o i1 N re D C (.inr u) B g t r p l q a down d b o_);have wj:=kZ N;clear O sz X C u;go_enter func151,ntmps151;go_wp2_with fail;go_quiet (fail);have dn:=f nq;have d:=bL (G.o.below dn);have u:Hid (Dk B w (w.drewN nq)):=.below Q dn;clear dn f Y x G A;generalize w.drewN nq=k at *;have x:=bQ 5 d.o.rb rfl;have L:=bM d.o.rb 5;have b:=gs_ k g 5 (I_ ((i:Int)+1));have C:Hid (Dr B g s (i+1) t r (.slice p l q) a down (k.setCell (a_ g 5) (I_ ((i:Int)+1)))):=d.o.fD b (d.o.rb.at (i+1));have E:=bL (u.o.trans (d.o.dk b));clear b;go_wp2_with fail;clear x L d u Z S;generalize k.setCell (a_ g 5) (I_ ((i:Int)+1))=z at *;refine (fE.o z C.o).mono ?_;rintro e W ⟨rfl,d,H,b⟩;have I:=bL (E.o.trans d);have y:=bL b;clear d b C E fE;have x:=bQ 5 y.o.rb rfl;have L:=bM y.o.rb 5;have b:=gs_ W g 5 (I_ ((N:Int)+1));have D6:Hid (Dr B g s (N+1) (t++Pu.nodes re t.length) H (.slice p l q) a (Pu.dX l D down) (W.setCell (a_ g 5) (I_ ((N:Int)+1)))):=y.o.fD b (y.o.rb.at (N+1));have K6:=bL (I.o.trans (y.o.dk b));clear b;generalize b:((t.length+re.size-1:Nat):Int)=rn at *;have Zn:=bL b;clear b;go_wp2;go_ret;exact⟨by rw[Zn.o];rfl,K6.o,H,D6.o⟩
 have e1:(Pu.dN s i == 40)=false:=by simpa using X
 have e2:(Pu.dN s i == 91)=false:=by simpa using V
 have e3:(Pu.dN s i == 46)=false:=by simpa using K
 have u:=iM s i;rw[<-O]at u;obtain⟨m,E⟩:∃m:Nat,Pu.dN s i=(m:Int):=⟨(Pu.dN s i).toNat,o_⟩;have SP:=bL (fun d (b:Db d g s i r (.slice p l q) a down)=>Kc g i s r (.slice p l q) a down d b o_ i1 U);have mb:m<256:=o_;rw[E]at A e1 e2 e3 SP;rw[E];clear O sz hb U X V K u E;rotate_left;have vb:=(Pu.Sg.xC U hv).bd;obtain⟨m,E⟩:∃m:Nat,v=(m:Int):=⟨v.toNat,o_⟩;subst E;rw[U]at A;have SP:=bL (fun d (b:Db d g s i r (.slice p l q) a down)=>wU g i (i+2) s r (.slice p l q) a down (m:Int) d b o_ (.xC U hv));clear O sz U hv;rotate_left;all_goals
  go_enter func151,ntmps151;go_wp2_with fail;go_quiet (fail);have dn:=f nq;have d:=bL (G.o.below dn);have u:Hid (Dk B w (w.drewN nq)):=.below Q dn;clear dn f Y x G A;generalize w.drewN nq=k at *;have C:=bL (DC.new d.o u.o Q);go_upto_region 19 with (first | (refine pG rfl 181 0 (.const (.int .i64 1)) (I_ 1) rfl rfl _ S.o ?_) | (refine ws_ rfl 181 (.tmp 6) (.tmp 69) rfl k.heap.size 0 (dS ⟨1,0,0,Pu.dW⟩).toArray rfl rfl (jC _) (nk _) (oc_ (jf _)) ?_));clear d u Z S;generalize (k.alloc (c_ zm.toArray 181)).setCells k.heap.size 0 (dS ⟨1,0,0,Pu.dW⟩)=z at *;generalize k.heap.size=J at *;have b:=bL (SP.o z C.o.dr.rb);go_wp2_with fail;refine b.o.mono ?_;clear b;rintro e w3 ⟨rfl,d,u⟩;have b:=bL (C.o.fD d u);clear d u C;have ic0:=jJ m;have ic1:(m:Int)<256:=o_;have d:=bN (j:=3+m) b.o.x (by
   rw[(o_:3+m=m+1+1+1)];show (dD _)[m]?=_;exact iq _ o_)
  have C:=bM b.o.x (3+m);have u:=bL (b.o.bit m true);generalize Pu.dW m=V at d;go_upto_region 21 with (fail);clear d C b;generalize w3.setCell (a_ J (3+m)) (.bool true)=K at *;have C:Hid (K.rangeAt J 0 (dS ⟨1,0,0,jH (m:Int)⟩)):=u.o.fin (aas (fun n _=>by
   unfold jH Pu.dW;by_cases e:n=m
   .subst e;simp
   .have:¬(n:Int)=m:=o_;simp[e,this]))
  go_wp2_with (refine wl_ rfl 181 (.tmp 6) rfl J 0 rfl (dS ⟨1,0,0,jH (m:Int)⟩) _ C.o underlying181 rfl (by rw[iA];exact iH) ?_)
 refine (pq B g (i+1) s t r (.slice p l q) a down ⟨1,0,0,jH (m:Int)⟩ K u.o.dr o_).mono ?_;rotate_left;focus refine (pq B g (i+2) s t r (.slice p l q) a down ⟨1,0,0,jH (m:Int)⟩ K u.o.dr o_).mono ?_
 all_goals
  rintro e W ⟨rfl,d,H,b⟩;have I:=bL (u.o.dk.trans d);have y:=bL b;clear d b C u;go_wp2;go_ret;exact⟨rfl,I.o,H,by rw[zh];exact y.o⟩
end Go.Proofs.YtmccnmgaoppogabGreat
