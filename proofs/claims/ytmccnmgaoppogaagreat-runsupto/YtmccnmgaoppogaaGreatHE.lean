import Derived.Test.YtmccnmgaoppogaaGreatKaj
namespace Go.Proofs.YtmccnmgaoppogaaGreat
open Pu
set_option linter.all false
set_option maxRecDepth 100000
set_option maxHeartbeats 8000000
open Go.RowKit
def ClR (s:Y_) (j:Nat) (T:Nat->Bool) (D:Bool) (k:Nat) (T':Nat->Bool) (D':Bool):Prop:=aj s j T D k T' D'\/(j+1=k/\Pu.dG s j=93/\T=T'/\D=D')
theorem Ea (B g i k:Nat) (s:Y_) (ns:List aF) (vn:V_) (al:Option Addr) (nl cl:Nat) (modes down:Int) (T:Nat->Bool) (D:Bool) (w:W_) (neg:Bool) (hneg:neg=decide (Pu.dG s i=94)) (h:Dr B g s i ns vn (.slice al nl cl) modes down w) (hs:s.size<=400) (hl:ns.length<=10000)
  (hc:aj s (if Pu.dG s i=94 then i+1 else i) Pu.dP false k T D) :
  C_ 157 #[p_ g] w (XH B g s k ns.length (ns++[⟨1,0,0,if neg then mF T else T⟩]) (.slice al nl cl) modes (oF nl D down) w):=by
 have BL:=h.lt;have zv:=mg;have beg:=hc.beg
 have i1:i<s.size:=by
  by_cases e:Pu.dG s i=94
  .exact Pu.fB (s:=s) (i:=i) (by rw [e];decide)
  .rw [if_neg e] at beg;exact beg.2.1
 have ks:=beg.2.2;have C0:=bK (DC.new h (Dk.refl B w) BL);have SB:=bK (BQ 1);have x0:=fun w=>dU s (i:Int) i rfl (by omega) w
 have j0:=jg i;have j1:(i:Int)<s.size:=by omega
 have wi:=kg i;have HC:=bK hc;rw [lK i1] at hneg HC;generalize bt s i=b at *;clear h hc beg;go_enter Tryz.func157,Tryz.ntmps157;go_upto_region 2 with (first | (refine oz rfl 161 0 (.const (.int .i64 1)) (I_ 1) rfl rfl _ SB.o ?_) | (refine ws_ rfl 161 (.tmp 3) (.tmp 9) rfl w.heap.size 0 (dN ⟨1,0,0,Pu.dP⟩).toArray rfl rfl (iY _) (lY _) (oc_ (iO _)) ?_))
 have C1:=C0;clear C0 zv SB;generalize (w.alloc (c_ xX.toArray 161)).setCells w.heap.size 0 (dN ⟨1,0,0,Pu.dP⟩)=W1 at *;generalize w.heap.size=gx at *;have c4:=bP 4 C1.o.dr.rb rfl;have c5:=bP 5 C1.o.dr.rb rfl;by_cases hb94:b=94
 focus
  subst hb94;rw [if_pos rfl] at HC;rw [dt_ rfl] at hneg;subst hneg
  go_wp2_with fail
  go_quiet (fail);have C1':=bK (C1.o.below (bd_ (Br_ W1.heap.size W1) nq));clear C1 c4 c5 x0;generalize W1.drewN nq=W2 at *;have c5:=bP 5 C1'.o.dr.rb rfl;have f5:=bL C1'.o.dr.rb 5;have C2:Hid (DC B g s (i+1) ns vn (.slice al nl cl) modes down w gx Pu.dP (W2.setCell (a_ g 5) (I_ ((i:Int)+1)))):=C1'.o.eP (gs_ _ _ _ _) (C1'.o.dr.rb.at (i+1))
  go_wp2_with fail
  clear c5 f5 C1';generalize W2.setCell (a_ g 5) (I_ ((i:Int)+1))=W3 at *;obtain⟨aS,hi0⟩:∃q,Hid (q=i+1):=⟨_,bK rfl⟩
 rotate_left
 focus
  have e94:(b == 94)=false:=by simpa using hb94
  rw [if_neg hb94] at HC;rw [dn_ hb94] at hneg;subst hneg;clear hb94
  go_wp2_with fail
  go_quiet (fail);have C2:=bK (C1.o.below (bd_ (Br_ W1.heap.size W1) nq));clear C1 c4 c5 x0 e94;generalize W1.drewN nq=W2 at *
  go_wp2_with fail
  obtain⟨aS,hi0⟩:∃q,Hid (q=i):=⟨_,bK rfl⟩
 rotate_left
 all_goals
  go_loopg [5,6,7] (s.size-aS) (fun gk _ _ _ wx=>∃j T0 D0,j<=s.size/\gk=s.size-j/\DC B g s j ns vn (.slice al nl cl) modes (oF nl D0 down) w gx T0 wx/\ClR s j T0 D0 k T D)
  case atStart=>exact⟨aS,Pu.dP,false,by rw [hi0.o];omega,rfl,by rw [xS,hi0.o];exact C2.o,.inl (by rw [hi0.o];exact HC.o)⟩
  case' round=>
   clear C2 HC hi0;obtain⟨jj,T0,D0,jl,rfl,hC,aka⟩:=hrel;have C3:=bK hC;have y4:=bP 4 hC.dr.rb rfl;have y5:=bP 5 hC.dr.rb rfl;clear hC;rcases aka with hcl | ⟨hk,Kl,rfl,rfl⟩
   .have jlt:=hcl.beg.2.1;have n93:=hcl.beg.1;rw [lK jlt] at n93;have xj:=fun w=>dU s (jj:Int) jj rfl (by omega) w
    have jj0:=jg jj;have jj1:(jj:Int)<s.size:=by omega
    have e93:(bt s jj != 93)=true:=by simpa using n93
    have HCL:=bK hcl;clear hcl n93;generalize bt s jj=bj at *
    go_wp2_with fail
    go_quiet (fail);have C4:=bK (C3.o.below (bd_ (Br_ wr.heap.size wr) nq));clear C3 y4 y5 xj e93;generalize wr.drewN nq=W4 at *
    obtain⟨j2,lo,hi,r,hit,YX⟩:∃j2 lo hi r,ay s jj j2 lo hi r/\ClR s j2 (Pu.wid T0 lo hi) (D0 || decide (hi<lo)) k T D:=by
     cases HCL.o with
     | done h1 h2=>exact⟨_,_,_,_,h1,.inr ⟨rfl,h2,rfl,rfl⟩⟩
     | more h1 h2 h3=>exact⟨_,_,_,_,h1,.inl h3⟩
    have ib:=hit.bd;have il:=hit.lt;have ile:=hit.le
    have j2s:j2<s.size:=by
     rcases YX with h | ⟨_,h,_⟩
     .exact h.beg.2.1
     .exact Pu.fB (s:=s) (i:=j2) (by rw [h];decide)
    have REM:=bK YX;clear YX HCL
    cases hit with
    | one hsg hn45=>?_
    | range hsg h45 Mj=>?_
    focus
     have SG:=bK (vz g jj j2 s vn _ modes _ lo W4 C4.o.dr.rb (by omega) hsg);rw [lK j2s] at hn45;have xk:=fun w=>dU s (j2:Int) j2 rfl (by omega) w
     have k0:=jg j2;have k1:(j2:Int)<s.size:=by omega
     have e45:(bt s j2 == 45)=false:=by simpa using hn45
     generalize bt s j2=b2 at *;clear hsg hn45
    rotate_left
    focus
     rename_i jm
     have jms:jm<s.size:=Pu.fB (s:=s) (i:=jm) (by rw [h45];decide);have SG:=bK (vz g jj jm s vn _ modes _ lo W4 C4.o.dr.rb (by omega) hsg);rw [lK jms] at h45;have xk:=fun w=>dU s (jm:Int) jm rfl (by omega) w
     rw [h45] at xk;have k0:=jg jm;have k1:(jm:Int)<s.size:=by omega
     have wm:=kg jm;have HS2:=bK Mj;clear hsg Mj h45
    rotate_left
    all_goals
     go_wp2_with fail
     refine SG.o.mono ?_
     clear SG;rintro e w5 ⟨rfl,hg5,hr5⟩;have C5:=bK (C4.o.eP hg5 hr5);clear hg5 hr5 C4;have y4:=bP 4 C5.o.dr.rb rfl;have y5:=bP 5 C5.o.dr.rb rfl
     go_wp2_with fail
     go_quiet (fail)
    .have CY:=bK (C5.o.below (bd_ (Br_ w5.heap.size w5) nq));clear C5 y4 y5 xk e45;generalize w5.drewN nq=W6 at *;have hdn:¬lo<lo:=by omega
     have g1:decide (lo<lo)=false:=dn_ hdn;have CX:Hid (DC B g s j2 ns vn (.slice al nl cl) modes (oF nl (D0 || decide (lo<lo)) down) w gx T0 W6):=by rw [g1,Bool.or_false];exact CY.o
     clear CY hdn
     go_wp2_with fail
     have wlo:(0:Int)<=lo:=by omega
     have cI:Hid (∃c:Nat,(I_ lo:V_)=I_ c/\lo<=(c:Int)/\((c:Int)<=lo+1\/(c:Int)=lo)/\(256-lo).toNat=256-c/\c<=256/\DC B g s j2 ns vn (.slice al nl cl) modes (oF nl (D0 || decide (lo<lo)) down) w gx (Pu.wid T0 lo ((c:Int)-1)) W6):=by refine⟨lo.toNat,by rw [Int.toNat_of_nonneg wlo],by omega,.inr (by omega),by omega,by omega,?_⟩;rw [Int.toNat_of_nonneg wlo,ou T0 (by omega)];exact CX.o
     clear CX
     go_loopg [7] ((256-lo).toNat) (fun gk kv wx=>∃c:Nat,kv=I_ c/\lo<=(c:Int)/\((c:Int)<=lo+1\/(c:Int)=lo)/\gk=256-c/\c<=256/\DC B g s j2 ns vn (.slice al nl cl) modes (oF nl (D0 || decide (lo<lo)) down) w gx (Pu.wid T0 lo ((c:Int)-1)) wx)
     case atStart=>exact cI.o
     case round=>
      clear cI;obtain⟨c,rfl,c1,c2,rfl,c3,hD⟩:=hrel;have HD:=bK hD;clear hD;by_cases hlt:(c:Int)<=lo
      .have d1:decide ((c:Int)<=lo)=true:=dt_ hlt;have ic0:=jg c;have ic1:(c:Int)<256:=by omega
       have wc:=kg c
       have xc:=bM (j:=3+c) HD.o.x (by
        rw [show 3+c=c+1+1+1 by omega];show (cK _)[c]?=_
        exact gD _ (by omega))
       have fc:=bL HD.o.x (3+c);have D2:Hid (DC B g s j2 ns vn (.slice al nl cl) modes (oF nl (D0 || decide (lo<lo)) down) w gx (Pu.wid T0 lo (((c+1:Nat):Int)-1)) (wr.setCell (a_ gx (3+c)) (.bool true))):=by have:=HD.o.bit c true;rw [Gb T0 lo c c1] at this;rw [show ((c+1:Nat):Int)-1=(c:Int) by omega];exact this
       generalize Pu.wid T0 lo ((c:Int)-1) c=oldb at *;go_wp2;go_roundg (256-(c+1))
       case measure=>omega
       case rel=>exact⟨c+1,by go_num,by omega,.inl (by omega),rfl,by omega,D2.o⟩
      .have d1:decide ((c:Int)<=lo)=false:=dn_ hlt
       have EW:Hid (Pu.wid T0 lo ((c:Int)-1)=Pu.wid T0 lo lo):=by
        show _=_;rcases c2 with e | e
        .rw [show (c:Int)-1=lo by omega]
        .rw [ou T0 (by omega),ou T0 (by omega)]
       have CF:Hid (DC B g s j2 ns vn (.slice al nl cl) modes (oF nl (D0 || decide (lo<lo)) down) w gx (Pu.wid T0 lo lo) wr):=by have:=HD.o;rw [EW.o] at this;exact this
       clear HD EW;go_wp2;go_roundg (s.size-j2)
       case measure=>omega
       case rel=>exact⟨j2,Pu.wid T0 lo lo,D0 || decide (lo<lo),by omega,rfl,CF.o,REM.o⟩
    .have C6:=bK (C5.o.below (bd_ (Br_ w5.heap.size w5) nq));clear C5 y4 y5 xk;generalize w5.drewN nq=W6 at *;have y5:=bP 5 C6.o.dr.rb rfl;have f5:=bL C6.o.dr.rb 5;have C7:Hid (DC B g s (jm+1) ns vn (.slice al nl cl) modes (oF nl D0 down) w gx T0 (W6.setCell (a_ g 5) (I_ ((jm:Int)+1)))):=C6.o.eP (gs_ _ _ _ _) (C6.o.dr.rb.at (jm+1))
     go_wp2_with fail
     clear y5 f5 C6;generalize W6.setCell (a_ g 5) (I_ ((jm:Int)+1))=W7 at *;refine (vz g (jm+1) j2 s vn _ modes _ hi W7 C7.o.dr.rb (by omega) HS2.o).mono ?_
     rintro e w8 ⟨rfl,hg8,hr8⟩;have CY:=bK (C7.o.eP hg8 hr8);clear hg8 hr8 C7 HS2;by_cases hdn:hi<lo
     .have g1:decide (hi<lo)=true:=dt_ hdn;by_cases hd0:oF nl D0 down<0
      focus
       have g2:decide (oF nl D0 down<0)=true:=dt_ hd0;have r3:=bP 3 CY.o.dr.rb rfl;have rf3:=bL CY.o.dr.rb 3;have r2:=bP 2 CY.o.dr.rb rfl;have UP:Hid (oF nl (D0 || true) down=nl):=by show _=_;rw [<-Kc (by omega:(0:Int)<=nl) D0 true down];unfold oF at hd0 |-;rw [if_pos ⟨rfl,hd0⟩]
       have CX:Hid (DC B g s j2 ns vn (.slice al nl cl) modes (oF nl (D0 || decide (hi<lo)) down) w gx T0 (w8.setCell (a_ g 3) (I_ nl))):=by have:=CY.o.eP (gs_ w8 g 3 (I_ nl)) (CY.o.dr.rb.dn nl);rw [g1,UP.o];exact this
      rotate_left
      focus
       have g2:decide (oF nl D0 down<0)=false:=dn_ hd0;have r3:=bP 3 CY.o.dr.rb rfl;have UP:Hid (oF nl (D0 || true) down=oF nl D0 down):=by show _=_;rw [<-Kc (by omega:(0:Int)<=nl) D0 true down];generalize oF nl D0 down=ud at *;unfold oF;rw [if_neg (fun h=>hd0 h.2)]
       have CX:Hid (DC B g s j2 ns vn (.slice al nl cl) modes (oF nl (D0 || decide (hi<lo)) down) w gx T0 w8):=by rw [g1,UP.o];exact CY.o
      rotate_left
      all_goals
       generalize hud:oF nl D0 down=ud at r3 g2;clear CY UP hdn hd0 hud
       go_wp2_with fail
      focus
       clear r2 r3 rf3 g2;generalize w8.setCell (a_ g 3) (I_ nl)=WX at *;have wlo:(0:Int)<=lo:=by omega
       have cI:Hid (∃c:Nat,(I_ lo:V_)=I_ c/\lo<=(c:Int)/\((c:Int)<=hi+1\/(c:Int)=lo)/\(256-lo).toNat=256-c/\c<=256/\DC B g s j2 ns vn (.slice al nl cl) modes (oF nl (D0 || decide (hi<lo)) down) w gx (Pu.wid T0 lo ((c:Int)-1)) WX):=by refine⟨lo.toNat,by rw [Int.toNat_of_nonneg wlo],by omega,.inr (by omega),by omega,by omega,?_⟩;rw [Int.toNat_of_nonneg wlo,ou T0 (by omega)];exact CX.o
      rotate_left
      focus
       clear r3 g2;have wlo:(0:Int)<=lo:=by omega
       have cI:Hid (∃c:Nat,(I_ lo:V_)=I_ c/\lo<=(c:Int)/\((c:Int)<=hi+1\/(c:Int)=lo)/\(256-lo).toNat=256-c/\c<=256/\DC B g s j2 ns vn (.slice al nl cl) modes (oF nl (D0 || decide (hi<lo)) down) w gx (Pu.wid T0 lo ((c:Int)-1)) w8):=by refine⟨lo.toNat,by rw [Int.toNat_of_nonneg wlo],by omega,.inr (by omega),by omega,by omega,?_⟩;rw [Int.toNat_of_nonneg wlo,ou T0 (by omega)];exact CX.o
      all_goals
       clear CX
       go_loopg [7] ((256-lo).toNat) (fun gk kv wx=>∃c:Nat,kv=I_ c/\lo<=(c:Int)/\((c:Int)<=hi+1\/(c:Int)=lo)/\gk=256-c/\c<=256/\DC B g s j2 ns vn (.slice al nl cl) modes (oF nl (D0 || decide (hi<lo)) down) w gx (Pu.wid T0 lo ((c:Int)-1)) wx)
       case atStart=>exact cI.o
       case round=>
        clear cI;obtain⟨c,rfl,c1,c2,rfl,c3,hD⟩:=hrel;have HD:=bK hD;clear hD;by_cases hlt:(c:Int)<=hi
        .have d1:decide ((c:Int)<=hi)=true:=dt_ hlt;have ic0:=jg c;have ic1:(c:Int)<256:=by omega
         have wc:=kg c
         have xc:=bM (j:=3+c) HD.o.x (by
          rw [show 3+c=c+1+1+1 by omega];show (cK _)[c]?=_
          exact gD _ (by omega))
         have fc:=bL HD.o.x (3+c);have D2:Hid (DC B g s j2 ns vn (.slice al nl cl) modes (oF nl (D0 || decide (hi<lo)) down) w gx (Pu.wid T0 lo (((c+1:Nat):Int)-1)) (wr.setCell (a_ gx (3+c)) (.bool true))):=by have:=HD.o.bit c true;rw [Gb T0 lo c c1] at this;rw [show ((c+1:Nat):Int)-1=(c:Int) by omega];exact this
         generalize Pu.wid T0 lo ((c:Int)-1) c=oldb at *;go_wp2;go_roundg (256-(c+1))
         case measure=>omega
         case rel=>exact⟨c+1,by go_num,by omega,.inl (by omega),rfl,by omega,D2.o⟩
        .have d1:decide ((c:Int)<=hi)=false:=dn_ hlt
         have EW:Hid (Pu.wid T0 lo ((c:Int)-1)=Pu.wid T0 lo hi):=by
          show _=_;rcases c2 with e | e
          .rw [show (c:Int)-1=hi by omega]
          .rw [ou T0 (by omega),ou T0 (by omega)]
         have CF:Hid (DC B g s j2 ns vn (.slice al nl cl) modes (oF nl (D0 || decide (hi<lo)) down) w gx (Pu.wid T0 lo hi) wr):=by have:=HD.o;rw [EW.o] at this;exact this
         clear HD EW;go_wp2;go_roundg (s.size-j2)
         case measure=>omega
         case rel=>exact⟨j2,Pu.wid T0 lo hi,D0 || decide (hi<lo),by omega,rfl,CF.o,REM.o⟩
     .have g1:decide (hi<lo)=false:=dn_ hdn;have CX:Hid (DC B g s j2 ns vn (.slice al nl cl) modes (oF nl (D0 || decide (hi<lo)) down) w gx T0 w8):=by rw [g1,Bool.or_false];exact CY.o
      clear CY hdn
      go_wp2_with fail
      have wlo:(0:Int)<=lo:=by omega
      have cI:Hid (∃c:Nat,(I_ lo:V_)=I_ c/\lo<=(c:Int)/\((c:Int)<=hi+1\/(c:Int)=lo)/\(256-lo).toNat=256-c/\c<=256/\DC B g s j2 ns vn (.slice al nl cl) modes (oF nl (D0 || decide (hi<lo)) down) w gx (Pu.wid T0 lo ((c:Int)-1)) w8):=by refine⟨lo.toNat,by rw [Int.toNat_of_nonneg wlo],by omega,.inr (by omega),by omega,by omega,?_⟩;rw [Int.toNat_of_nonneg wlo,ou T0 (by omega)];exact CX.o
      clear CX
      go_loopg [7] ((256-lo).toNat) (fun gk kv wx=>∃c:Nat,kv=I_ c/\lo<=(c:Int)/\((c:Int)<=hi+1\/(c:Int)=lo)/\gk=256-c/\c<=256/\DC B g s j2 ns vn (.slice al nl cl) modes (oF nl (D0 || decide (hi<lo)) down) w gx (Pu.wid T0 lo ((c:Int)-1)) wx)
      case atStart=>exact cI.o
      case round=>
       clear cI;obtain⟨c,rfl,c1,c2,rfl,c3,hD⟩:=hrel;have HD:=bK hD;clear hD;by_cases hlt:(c:Int)<=hi
       .have d1:decide ((c:Int)<=hi)=true:=dt_ hlt;have ic0:=jg c;have ic1:(c:Int)<256:=by omega
        have wc:=kg c
        have xc:=bM (j:=3+c) HD.o.x (by
         rw [show 3+c=c+1+1+1 by omega];show (cK _)[c]?=_
         exact gD _ (by omega))
        have fc:=bL HD.o.x (3+c);have D2:Hid (DC B g s j2 ns vn (.slice al nl cl) modes (oF nl (D0 || decide (hi<lo)) down) w gx (Pu.wid T0 lo (((c+1:Nat):Int)-1)) (wr.setCell (a_ gx (3+c)) (.bool true))):=by have:=HD.o.bit c true;rw [Gb T0 lo c c1] at this;rw [show ((c+1:Nat):Int)-1=(c:Int) by omega];exact this
        generalize Pu.wid T0 lo ((c:Int)-1) c=oldb at *;go_wp2;go_roundg (256-(c+1))
        case measure=>omega
        case rel=>exact⟨c+1,by go_num,by omega,.inl (by omega),rfl,by omega,D2.o⟩
       .have d1:decide ((c:Int)<=hi)=false:=dn_ hlt
        have EW:Hid (Pu.wid T0 lo ((c:Int)-1)=Pu.wid T0 lo hi):=by
         show _=_;rcases c2 with e | e
         .rw [show (c:Int)-1=hi by omega]
         .rw [ou T0 (by omega),ou T0 (by omega)]
        have CF:Hid (DC B g s j2 ns vn (.slice al nl cl) modes (oF nl (D0 || decide (hi<lo)) down) w gx (Pu.wid T0 lo hi) wr):=by have:=HD.o;rw [EW.o] at this;exact this
        clear HD EW;go_wp2;go_roundg (s.size-j2)
        case measure=>omega
        case rel=>exact⟨j2,Pu.wid T0 lo hi,D0 || decide (hi<lo),by omega,rfl,CF.o,REM.o⟩
 all_goals
  have jlt:jj<s.size:=Pu.fB (s:=s) (i:=jj) (by rw [Kl];decide);rw [lK jlt] at Kl;have xj:=fun w=>dU s (jj:Int) jj rfl (by omega) w
  rw [Kl] at xj;have jj0:=jg jj;have jj1:(jj:Int)<s.size:=by omega
  have wj:=kg jj;have HJK:=bK hk;clear hk Kl
  go_wp2_with fail
  go_quiet (fail);have C4:=bK (C3.o.below (bd_ (Br_ wr.heap.size wr) nq));clear C3 y4 y5 xj;generalize wr.drewN nq=W4 at *;have y5:=bP 5 C4.o.dr.rb rfl;have f5:=bL C4.o.dr.rb 5;have C6:Hid (DC B g s (jj+1) ns vn (.slice al nl cl) modes (oF nl D0 down) w gx T0 (W4.setCell (a_ g 5) (I_ ((jj:Int)+1)))):=C4.o.eP (gs_ _ _ _ _) (C4.o.dr.rb.at (jj+1))
  go_wp2_with fail
  clear y5 f5 C4;generalize W4.setCell (a_ g 5) (I_ ((jj:Int)+1))=W5 at *
 .go_loopg [8] 256 (fun gk kv wx=>∃c:Nat,c<=256/\gk=256-c/\kv=I_ c/\DC B g s (jj+1) ns vn (.slice al nl cl) modes (oF nl D0 down) w gx (kQ T0 (fun n=>T0 n != true) c) wx)
  case atStart=>exact⟨0,zl_ _,rfl,rfl,by rw [uH];exact C6.o⟩
  case round=>
   clear C6;obtain⟨c,Ad,rfl,rfl,hD⟩:=hrel;have HD:=bK hD;clear hD;by_cases hlt:c<256
   .have d1:decide ((c:Int)<256)=true:=dt_ (by omega);have ic0:=jg c;have ic1:(c:Int)<256:=by omega
    have wc:=kg c
    have xc:wr.cell? (a_ gx (3+c))=some (.bool (T0 c)):=by
     have:=bM (j:=3+c) HD.o.x (u:=.bool (T0 c)) (by
      rw [show 3+c=c+1+1+1 by omega];show (cK _)[c]?=_;rw [gD _ hlt]
      simp [kQ])
     exact this
    have fc:=bL HD.o.x (3+c)
    have D2:Hid (DC B g s (jj+1) ns vn (.slice al nl cl) modes (oF nl D0 down) w gx (kQ T0 (fun n=>T0 n != true) (c+1)) (wr.setCell (a_ gx (3+c)) (.bool (T0 c != true)))):=by
     have:=HD.o.bit c (T0 c != true)
     have e:(fun n=>if n=c then (T0 c != true) else kQ T0 (fun n=>T0 n != true) c n)=kQ T0 (fun n=>T0 n != true) (c+1):=by
      funext n;unfold kQ;by_cases e:n=c
      .subst e;simp
      .by_cases h2:n<c
       .have h3:n<c+1:=by omega
        simp [e,h2,h3]
       .have h3:¬n<c+1:=by omega
        simp [e,h2,h3]
     rw [e] at this;exact this
    generalize T0 c=tc at *;cases tc
    all_goals
     go_wp2;go_roundg (256-(c+1))
     case measure=>omega
     case rel=>exact⟨c+1,by omega,rfl,by go_num,D2.o⟩
   .have d1:decide ((c:Int)<256)=false:=dn_ (by omega);have e:c=256:=by omega
    subst e;have FIN:Hid (dN ⟨1,0,0,kQ T0 (fun n=>T0 n != true) 256⟩=dN ⟨1,0,0,(mF T0)⟩):=by show _=_;unfold dN;simp only;rw [wY];congr 4;funext n;simp [mF]
    have HX:=bK HD.o.there;rw [FIN.o] at HX;clear FIN;generalize hU:(mF T0)=U at *
    go_wp2_with (refine wl_ rfl 161 (.tmp 3) rfl gx 0 rfl (dN ⟨1,0,0,U⟩) _ HX.o Tryz.underlying161 rfl (by rw [gI];exact iq) ?_)
    refine (om B g (jj+1) s ns vn (.slice al nl cl) modes (oF nl D0 down) ⟨1,0,0,U⟩ wr HD.o.dr hl).mono ?_
    rintro e w9 ⟨rfl,hk9,vn9,hd9⟩;have K9:=bK (HD.o.dk.trans hk9);have D9:=bK hd9;clear hk9 hd9 HX;go_wp2;go_ret;exact⟨rfl,K9.o,vn9,by rw [<-HJK.o];first | exact D9.o | (rw [if_pos rfl];exact D9.o) | (rw [if_neg (by decide)];exact D9.o)⟩
 .go_loopg [8] 256 (fun gk kv wx=>∃c:Nat,c<=256/\gk=256-c/\kv=I_ c/\DC B g s (jj+1) ns vn (.slice al nl cl) modes (oF nl D0 down) w gx (kQ T0 (fun n=>T0 n != false) c) wx)
  case atStart=>exact⟨0,zl_ _,rfl,rfl,by rw [uH];exact C6.o⟩
  case round=>
   clear C6;obtain⟨c,Ad,rfl,rfl,hD⟩:=hrel;have HD:=bK hD;clear hD;by_cases hlt:c<256
   .have d1:decide ((c:Int)<256)=true:=dt_ (by omega);have ic0:=jg c;have ic1:(c:Int)<256:=by omega
    have wc:=kg c
    have xc:wr.cell? (a_ gx (3+c))=some (.bool (T0 c)):=by
     have:=bM (j:=3+c) HD.o.x (u:=.bool (T0 c)) (by
      rw [show 3+c=c+1+1+1 by omega];show (cK _)[c]?=_;rw [gD _ hlt]
      simp [kQ])
     exact this
    have fc:=bL HD.o.x (3+c)
    have D2:Hid (DC B g s (jj+1) ns vn (.slice al nl cl) modes (oF nl D0 down) w gx (kQ T0 (fun n=>T0 n != false) (c+1)) (wr.setCell (a_ gx (3+c)) (.bool (T0 c != false)))):=by
     have:=HD.o.bit c (T0 c != false)
     have e:(fun n=>if n=c then (T0 c != false) else kQ T0 (fun n=>T0 n != false) c n)=kQ T0 (fun n=>T0 n != false) (c+1):=by
      funext n;unfold kQ;by_cases e:n=c
      .subst e;simp
      .by_cases h2:n<c
       .have h3:n<c+1:=by omega
        simp [e,h2,h3]
       .have h3:¬n<c+1:=by omega
        simp [e,h2,h3]
     rw [e] at this;exact this
    generalize T0 c=tc at *;cases tc
    all_goals
     go_wp2;go_roundg (256-(c+1))
     case measure=>omega
     case rel=>exact⟨c+1,by omega,rfl,by go_num,D2.o⟩
   .have d1:decide ((c:Int)<256)=false:=dn_ (by omega);have e:c=256:=by omega
    subst e;have FIN:Hid (dN ⟨1,0,0,kQ T0 (fun n=>T0 n != false) 256⟩=dN ⟨1,0,0,T0⟩):=by show _=_;unfold dN;simp only;rw [wY];congr 4;funext n;simp
    have HX:=bK HD.o.there;rw [FIN.o] at HX;clear FIN;generalize hU:T0=U at *
    go_wp2_with (refine wl_ rfl 161 (.tmp 3) rfl gx 0 rfl (dN ⟨1,0,0,U⟩) _ HX.o Tryz.underlying161 rfl (by rw [gI];exact iq) ?_)
    refine (om B g (jj+1) s ns vn (.slice al nl cl) modes (oF nl D0 down) ⟨1,0,0,U⟩ wr HD.o.dr hl).mono ?_
    rintro e w9 ⟨rfl,hk9,vn9,hd9⟩;have K9:=bK (HD.o.dk.trans hk9);have D9:=bK hd9;clear hk9 hd9 HX;go_wp2;go_ret;exact⟨rfl,K9.o,vn9,by rw [<-HJK.o];first | exact D9.o | (rw [if_pos rfl];exact D9.o) | (rw [if_neg (by decide)];exact D9.o)⟩
namespace Pu
def aH.sz:aH->Nat
 | .OE a _=>a.size
 | .zn a _=>a.size
 | .yJ a _=>a.size
 | _=>0
def aH.un:aH->Nat
 | .OE _ _=>0
 | .zn _ _=>0
 | .yJ _ _=>0
 | _=>1
theorem P.size {s:Y_} {t:aH} {i j:Nat} {a:aM} {D:Bool} (h:P s t i j a D):a.size+2*i+t.un<=t.sz+2*j:=by
 induction h with
 | any=>simp [aM.size,aH.sz,aH.un];omega
 | Si=>simp [aM.size,aH.sz,aH.un];omega
 | wP=>simp [aM.size,aH.sz,aH.un];omega
 | cls _ _ h=>have:=h.lt;simp [aM.size,aH.sz,aH.un];omega
 | wZ _ _ h=>have:=h.lt;simp [aM.size,aH.sz,aH.un];omega
 | Me _ _ _ ih=>simp only [aH.sz,aH.un] at ih |-;omega
 | EZ=>simp [aH.sz,aH.un]
 | star _ _ ih=>simp only [aH.sz,aH.un,aM.size] at ih |-;omega
 | plus _ _ ih=>simp only [aH.sz,aH.un,aM.size] at ih |-;omega
 | opt _ _ ih=>simp only [aH.sz,aH.un,aM.size] at ih |-;omega
 | pc _ _ ih1 ih2=>simp only [aH.sz,aH.un] at ih1 ih2 |-;omega
 | Jf=>simp [aH.sz,aH.un]
 | zn _ _ _ ih1 ih2=>simp only [aH.sz,aH.un,aM.size] at ih1 ih2 |-;omega
 | br _ _ ih1 ih2=>simp only [aH.sz,aH.un] at ih1 ih2 |-;omega
 | GJ=>simp [aH.sz,aH.un]
 | yJ _ _ _ ih1 ih2=>simp only [aH.sz,aH.un,aM.size] at ih1 ih2 |-;omega
 | pa _ _ ih1 ih2=>simp only [aH.sz,aH.un] at ih1 ih2 |-;omega
def Xi (s:Y_):aH->Nat->Prop
 | .pc,j=>j<s.size
 | .br,j=>dG s j=32\/dG s j=124\/dG s j=41
 | .pa,j=>dG s j=32\/dG s j=41
 | _,_=>True
end Pu
def DOK (f:Nat) (nt:aH) (s:Y_) (i:Nat):Prop:=
 ∀(j:Nat) (re:aM) (D:Bool),Pu.P s nt i j re D->Xi s nt j->∀(B g:Nat) (ns:List aF) (vn:V_) (al:Option Addr) (nl cl:Nat) (modes down:Int) (w:W_),Dr B g s i ns vn (.slice al nl cl) modes down w->ns.length<=2*i->
  C_ f #[p_ g] w (XH B g s j (ns.length+re.size-1) (ns++Pu.nodes re ns.length) (.slice al nl cl) modes (oF nl D down) w)
theorem DC.fin {B g k:Nat} {s:Y_} {ns:List aF} {vn vl:V_} {modes down:Int} {w:W_} {gx:Nat} {T U:Nat->Bool} {W:W_} (h:DC B g s k ns vn vl modes down w gx T W) (e:cK T=cK U):W.rangeAt gx 0 (dN ⟨1,0,0,U⟩):=by
 have:=h.there;unfold dN at this |-
 simp only at this |-
 rw [e] at this;exact this
theorem Yf {T U:Nat->Bool} (h:∀n,n<256->T n=U n):cK T=cK U:=by
 apply List.ext_getElem?;intro i;by_cases hi:i<256
 .rw [gD _ hi,gD _ hi,h i hi]
 .rw [gn_ (by rw [bZ];omega),gn_ (by rw [bZ];omega)]
theorem wO (s:Y_) (i:Nat) (PA:i<s.size->DOK 95 .pa s (i+1)) (hs:s.size<=400):DOK 152 .atom s i:=by
 intro j re D hP _ B g ns vn al nl cl modes down w h hl;have BL:=h.lt;have zv:=mg;have SB:=bK (BQ 1);have sz:=hP.size;simp only [aH.sz,aH.un] at sz
 have i1:i<s.size:=by
  cases hP with
  | any h1=>exact Pu.fB (s:=s) (i:=i) (by rw [h1];decide)
  | Si h1 _ _ _ _=>exact Pu.fB (s:=s) (i:=i) (fun e=>h1 (by rw [e];decide))
  | wP h1 _=>exact Pu.fB (s:=s) (i:=i) (by rw [h1];decide)
  | cls h1 _ _=>exact Pu.fB (s:=s) (i:=i) (by rw [h1];decide)
  | wZ h1 _ _=>exact Pu.fB (s:=s) (i:=i) (by rw [h1];decide)
  | Me h1 _ _=>exact Pu.fB (s:=s) (i:=i) (by rw [h1];decide)
 have x0:=fun w=>dU s (i:Int) i rfl (by omega) w
 have j0:=jg i;have j1:(i:Int)<s.size:=by omega
 have wi:=kg i;have pb:=lK i1;rw [<-pb] at x0;have dn0:=bd_ (Br_ w.heap.size w);have c4:=bP 4 h.rb rfl;have c5:=bP 5 h.rb rfl;have H0:=bK h;have PA:=bK PA;clear h
 cases hP with
 | any h46=>
  rw [h46] at x0;clear pb sz;go_enter Tryz.func152,Tryz.ntmps152
  go_wp2_with fail
  go_quiet (fail);have dn:=dn0 nq;have H1:=bK (H0.o.below dn);have K1:Hid (Dk B w (w.drewN nq)):=.below BL dn;clear dn dn0 c4 c5 H0 x0;generalize w.drewN nq=W1 at *;have c5:=bP 5 H1.o.rb rfl;have f5:=bL H1.o.rb 5;have hg2:=gs_ W1 g 5 (I_ ((i:Int)+1));have H2:Hid (Dr B g s (i+1) ns vn (.slice al nl cl) modes down (W1.setCell (a_ g 5) (I_ ((i:Int)+1)))):=H1.o.eP hg2 (H1.o.rb.at (i+1));have K2:=bK (K1.o.trans (H1.o.dk hg2));clear hg2;have C3:=bK (DC.new H2.o K2.o BL);go_upto_region 12 with (fail);clear c5 f5 H1 K1 H2 K2;generalize W1.setCell (a_ g 5) (I_ ((i:Int)+1))=W2 at *
  go_wp2_with (first | (refine oz rfl 161 0 (.const (.int .i64 1)) (I_ 1) rfl rfl _ SB.o ?_) | (refine ws_ rfl 161 (.tmp 4) (.tmp 56) rfl W2.heap.size 0 (dN ⟨1,0,0,Pu.dP⟩).toArray rfl rfl (iY _) (lY _) (oc_ (iO _)) ?_))
  clear zv SB;generalize (W2.alloc (c_ xX.toArray 161)).setCells W2.heap.size 0 (dN ⟨1,0,0,Pu.dP⟩)=W3 at *;generalize W2.heap.size=gx at *
  go_loopg [5] 256 (fun gk kv wx=>∃c:Nat,c<=256/\gk=256-c/\kv=I_ c/\DC B g s (i+1) ns vn (.slice al nl cl) modes down w gx (kQ Pu.dP (mF (jf 10)) c) wx)
  case atStart=>exact⟨0,zl_ _,rfl,rfl,by rw [uH];exact C3.o⟩
  case round=>
   clear C3;obtain⟨c,Ad,rfl,rfl,hD⟩:=hrel;have HD:=bK hD;clear hD;by_cases hlt:c<256
   .have d1:decide ((c:Int)<256)=true:=dt_ (by omega);have ic0:=jg c;have ic1:(c:Int)<256:=by omega
    have wc:=kg c
    have xc:=bM (j:=3+c) HD.o.x (by
     rw [show 3+c=c+1+1+1 by omega];show (cK _)[c]?=_
     exact gD _ hlt)
    have fc:=bL HD.o.x (3+c);have e10:((c:Int) != 10)=mF (jf 10) c:=rfl
    have D2:Hid (DC B g s (i+1) ns vn (.slice al nl cl) modes down w gx (kQ Pu.dP (mF (jf 10)) (c+1)) (wr.setCell (a_ gx (3+c)) (.bool (mF (jf 10) c)))):=by
     have:=HD.o.bit c (mF (jf 10) c)
     have e:(fun n=>if n=c then mF (jf 10) c else kQ Pu.dP (mF (jf 10)) c n)=kQ Pu.dP (mF (jf 10)) (c+1):=by
      funext n;unfold kQ;by_cases e:n=c
      .subst e;simp
      .by_cases h2:n<c
       .have h3:n<c+1:=by omega
        simp [e,h2,h3]
       .have h3:¬n<c+1:=by omega
        simp [e,h2,h3]
     rw [e] at this;exact this
    generalize kQ Pu.dP (mF (jf 10)) c c=oldb at xc;generalize mF (jf 10) c=nb at *;go_wp2;go_roundg (256-(c+1))
    case measure=>omega
    case rel=>exact⟨c+1,by omega,rfl,by go_num,D2.o⟩
   .have d1:decide ((c:Int)<256)=false:=dn_ (by omega);have e:c=256:=by omega
    subst e;have HX:Hid (wr.rangeAt gx 0 (dN ⟨1,0,0,mF (jf 10)⟩)):=HD.o.fin (wY _ _)
    go_wp2_with (refine wl_ rfl 161 (.tmp 4) rfl gx 0 rfl (dN ⟨1,0,0,mF (jf 10)⟩) _ HX.o Tryz.underlying161 rfl (by rw [gI];exact iq) ?_)
    refine (om B g (i+1) s ns vn (.slice al nl cl) modes down ⟨1,0,0,mF (jf 10)⟩ wr HD.o.dr (by omega)).mono ?_
    rintro e w5 ⟨rfl,hk5,Ke,hd5⟩;have K5:=bK (HD.o.dk.trans hk5);have D5:=bK hd5;clear hk5 hd5 HX HD;go_wp2;go_ret;exact⟨rfl,K5.o,Ke,by rw [xS];exact D5.o⟩
 | Si hb ui Px OD h46=>?_
 | @wP _ v ui hv=>?_
 | @cls _ _ T _ OD h94 hc=>
  rw [OD] at x0;clear pb sz;go_enter Tryz.func152,Tryz.ntmps152
  go_wp2_with fail
  go_quiet (fail);have dn:=dn0 nq;have H1:=bK (H0.o.below dn);have K1:Hid (Dk B w (w.drewN nq)):=.below BL dn;clear dn dn0 c4 c5 H0 x0;generalize w.drewN nq=W1 at *;have c5:=bP 5 H1.o.rb rfl;have f5:=bL H1.o.rb 5;have hg2:=gs_ W1 g 5 (I_ ((i:Int)+1));have H2:Hid (Dr B g s (i+1) ns vn (.slice al nl cl) modes down (W1.setCell (a_ g 5) (I_ ((i:Int)+1)))):=H1.o.eP hg2 (H1.o.rb.at (i+1));have K2:=bK (K1.o.trans (H1.o.dk hg2));clear hg2
  go_wp2_with fail
  clear c5 f5 H1 K1 zv SB;generalize W1.setCell (a_ g 5) (I_ ((i:Int)+1))=W2 at *;refine (Ea B g (i+1) j s ns vn al nl cl modes down T D W2 false (by rw [dn_ h94]) H2.o hs (by omega) (by rw [if_neg h94];exact hc)).mono ?_
  rintro e w5 ⟨rfl,hk5,Ke,hd5⟩;have K5:=bK (K2.o.trans hk5);have D5:=bK hd5;clear hk5 hd5 H2 K2;go_wp2;go_ret;exact⟨rfl,K5.o,Ke,D5.o⟩
 | @wZ _ _ T _ OD h94 hc=>
  rw [OD] at x0;clear pb sz;go_enter Tryz.func152,Tryz.ntmps152
  go_wp2_with fail
  go_quiet (fail);have dn:=dn0 nq;have H1:=bK (H0.o.below dn);have K1:Hid (Dk B w (w.drewN nq)):=.below BL dn;clear dn dn0 c4 c5 H0 x0;generalize w.drewN nq=W1 at *;have c5:=bP 5 H1.o.rb rfl;have f5:=bL H1.o.rb 5;have hg2:=gs_ W1 g 5 (I_ ((i:Int)+1));have H2:Hid (Dr B g s (i+1) ns vn (.slice al nl cl) modes down (W1.setCell (a_ g 5) (I_ ((i:Int)+1)))):=H1.o.eP hg2 (H1.o.rb.at (i+1));have K2:=bK (K1.o.trans (H1.o.dk hg2));clear hg2
  go_wp2_with fail
  clear c5 f5 H1 K1 zv SB;generalize W1.setCell (a_ g 5) (I_ ((i:Int)+1))=W2 at *;refine (Ea B g (i+1) j s ns vn al nl cl modes down T D W2 true (by rw [dt_ h94]) H2.o hs (by omega) (by rw [if_pos h94];exact hc)).mono ?_
  rintro e w5 ⟨rfl,hk5,Ke,hd5⟩;have K5:=bK (K2.o.trans hk5);have D5:=bK hd5;clear hk5 hd5 H2 K2;go_wp2;go_ret;exact⟨rfl,K5.o,Ke,D5.o⟩
 | @Me _ j2 _ _ Px hp h41=>
  rw [Px] at x0;have j2s:j2<s.size:=Pu.fB (s:=s) (i:=j2) (by rw [h41];decide);have fw:=bK (fun w1 (h1:Dr B g s (i+1) ns vn (.slice al nl cl) modes down w1)=>PA.o i1 j2 re D hp (.inr h41) B g ns vn al nl cl modes down w1 h1 (by omega));have wj:=kg j2;clear pb sz Px hp h41;go_enter Tryz.func152,Tryz.ntmps152
  go_wp2_with fail
  go_quiet (fail);have dn:=dn0 nq;have H1:=bK (H0.o.below dn);have K1:Hid (Dk B w (w.drewN nq)):=.below BL dn;clear dn dn0 c4 c5 H0 x0;generalize w.drewN nq=W1 at *;have c5:=bP 5 H1.o.rb rfl;have f5:=bL H1.o.rb 5;have hg2:=gs_ W1 g 5 (I_ ((i:Int)+1));have H2:Hid (Dr B g s (i+1) ns vn (.slice al nl cl) modes down (W1.setCell (a_ g 5) (I_ ((i:Int)+1)))):=H1.o.eP hg2 (H1.o.rb.at (i+1));have K2:=bK (K1.o.trans (H1.o.dk hg2));clear hg2
  go_wp2_with fail
  clear c5 f5 H1 K1 zv SB;generalize W1.setCell (a_ g 5) (I_ ((i:Int)+1))=W2 at *;refine (fw.o W2 H2.o).mono ?_
  rintro e w5 ⟨rfl,hk5,Ke,hd5⟩;have K5:=bK (K2.o.trans hk5);have D5:=bK hd5;clear hk5 hd5 H2 K2 fw;have c5:=bP 5 D5.o.rb rfl;have f5:=bL D5.o.rb 5;have rM:=gs_ w5 g 5 (I_ ((j2:Int)+1));have D6:Hid (Dr B g s (j2+1) (ns++Pu.nodes re ns.length) Ke (.slice al nl cl) modes (oF nl D down) (w5.setCell (a_ g 5) (I_ ((j2:Int)+1)))):=D5.o.eP rM (D5.o.rb.at (j2+1));have K6:=bK (K5.o.trans (D5.o.dk rM));clear rM;generalize hrn:((ns.length+re.size-1:Nat):Int)=rn at *;have WO:=bK hrn;clear hrn;go_wp2;go_ret;exact⟨by rw [WO.o];rfl,K6.o,Ke,D6.o⟩
 focus
  have e1:(Pu.dG s i == 40)=false:=by simpa using Px
  have e2:(Pu.dG s i == 91)=false:=by simpa using OD
  have e3:(Pu.dG s i == 46)=false:=by simpa using h46
  have pbd:=iC s i;rw [<-pb] at pbd;obtain⟨m,hm⟩:∃m:Nat,Pu.dG s i=(m:Int):=⟨(Pu.dG s i).toNat,by omega⟩;have SP:=bK (fun w1 (h1:Db w1 g s i vn (.slice al nl cl) modes down)=>II g i s vn (.slice al nl cl) modes down w1 h1 (by omega) i1 ui);have mb:m<256:=by omega
  rw [hm] at x0 e1 e2 e3 SP;rw [hm];clear pb sz hb ui Px OD h46 pbd hm
 rotate_left
 focus
  have vb:=(Pu.Sg.wP ui hv).bd;obtain⟨m,hm⟩:∃m:Nat,v=(m:Int):=⟨v.toNat,by omega⟩;subst hm;rw [ui] at x0;have SP:=bK (fun w1 (h1:Db w1 g s i vn (.slice al nl cl) modes down)=>vz g i (i+2) s vn (.slice al nl cl) modes down (m:Int) w1 h1 (by omega) (.wP ui hv));clear pb sz ui hv
 rotate_left
 all_goals
  go_enter Tryz.func152,Tryz.ntmps152
  go_wp2_with fail
  go_quiet (fail);have dn:=dn0 nq;have H1:=bK (H0.o.below dn);have K1:Hid (Dk B w (w.drewN nq)):=.below BL dn;clear dn dn0 c4 c5 H0 x0;generalize w.drewN nq=W1 at *;have C1:=bK (DC.new H1.o K1.o BL);go_upto_region 19 with (first | (refine oz rfl 161 0 (.const (.int .i64 1)) (I_ 1) rfl rfl _ SB.o ?_) | (refine ws_ rfl 161 (.tmp 6) (.tmp 69) rfl W1.heap.size 0 (dN ⟨1,0,0,Pu.dP⟩).toArray rfl rfl (iY _) (lY _) (oc_ (iO _)) ?_));clear H1 K1 zv SB;generalize (W1.alloc (c_ xX.toArray 161)).setCells W1.heap.size 0 (dN ⟨1,0,0,Pu.dP⟩)=W2 at *;generalize W1.heap.size=gx at *;have SG:=bK (SP.o W2 C1.o.dr.rb)
  go_wp2_with fail
  refine SG.o.mono ?_
  clear SG;rintro e w3 ⟨rfl,hg3,hr3⟩;have C3:=bK (C1.o.eP hg3 hr3);clear hg3 hr3 C1;have ic0:=jg m;have ic1:(m:Int)<256:=by omega
  have xc:=bM (j:=3+m) C3.o.x (by
   rw [show 3+m=m+1+1+1 by omega];show (cK _)[m]?=_
   exact gD _ (by omega))
  have fc:=bL C3.o.x (3+m);have C4:=bK (C3.o.bit m true);generalize Pu.dP m=oldb at xc;go_upto_region 21 with (fail);clear xc fc C3;generalize w3.setCell (a_ gx (3+m)) (.bool true)=W4 at *
  have HX:Hid (W4.rangeAt gx 0 (dN ⟨1,0,0,jf (m:Int)⟩)):=C4.o.fin (Yf (fun n _=>by
   unfold jf Pu.dP;by_cases e:n=m
   .subst e;simp
   .have:¬(n:Int)=m:=by omega
    simp [e,this]))
  go_wp2_with (refine wl_ rfl 161 (.tmp 6) rfl gx 0 rfl (dN ⟨1,0,0,jf (m:Int)⟩) _ HX.o Tryz.underlying161 rfl (by rw [gI];exact iq) ?_)
 focus refine (om B g (i+1) s ns vn (.slice al nl cl) modes down ⟨1,0,0,jf (m:Int)⟩ W4 C4.o.dr (by omega)).mono ?_
 rotate_left
 focus refine (om B g (i+2) s ns vn (.slice al nl cl) modes down ⟨1,0,0,jf (m:Int)⟩ W4 C4.o.dr (by omega)).mono ?_
 all_goals
  rintro e w5 ⟨rfl,hk5,Ke,hd5⟩;have K5:=bK (C4.o.dk.trans hk5);have D5:=bK hd5;clear hk5 hd5 HX C4;go_wp2;go_ret;exact⟨rfl,K5.o,Ke,by rw [xS];exact D5.o⟩
end Go.Proofs.YtmccnmgaoppogaaGreat
