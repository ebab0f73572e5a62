/-
 The walks: the document's classes. (weirref)
 The walks: the document's atoms. (weirref)
-/
import Derived.Test.YtmccnmgaoppogaaGreatHB
namespace Go.Proofs.YtmccnmgaoppogaaGreat
set_option maxRecDepth 100000
set_option maxHeartbeats 8000000
open Go.RowKit
def ClR (s:ByteArray) (j:Nat) (T:Nat→Bool) (D:Bool) (k:Nat) (T':Nat→Bool) (D':Bool):Prop:=Pure.Cl s j T D k T' D'∨(j+1=k∧Pure.pkb s j=93∧T=T'∧D=D')
theorem dclass_any (B g i k:Nat) (s:ByteArray) (ns:List Pure.Nd) (vn:Value) (al:Option Addr) (nl cl:Nat) (modes down:Int) (T:Nat→Bool) (D:Bool) (w:World) (neg:Bool) (hneg:neg=decide (Pure.pkb s i=94)) (h:Dr B g s i ns vn (.slice al nl cl) modes down w) (hs:s.size≤400) (hl:ns.length≤10000)
  (hc:Pure.Cl s (if Pure.pkb s i=94 then i+1 else i) Pure.noneB false k T D) :
  Calls Tryz.prog 157 #[.pointer (some ⟨g,0,none⟩)] w (RetNd B g s k ns.length (ns++[⟨1,0,0,if neg then Pure.notB T else T⟩]) (.slice al nl cl) modes (Pure.upd nl D down) w):=by
 have BL:=h.lt
 have zv:=node_zeroV
 have beg:=hc.beg
 have i1:i<s.size:=by
  by_cases e:Pure.pkb s i=94
  ·exact Pure.pkb_lt (s:=s) (i:=i) (by rw [e];decide)
  ·rw [if_neg e] at beg;exact beg.2.1
 have ks:=beg.2.2
 have C0:=hide (DC.new h (Dk.refl B w) BL)
 have SB:=hide (node_built1 1)
 have x0:=fun w=>idx_str s (i:Int) i rfl (by omega) w
 have j0:=nz_ i
 have j1:(i:Int)<(s.size:Int):=by omega
 have wi:=wr_ (i:Int) (by omega) (by omega)
 have HC:=hide hc
 rw [Pure.pkb_bt i1] at hneg HC
 generalize bt s i=b at *
 clear h hc beg
 go_enter Tryz.func157,Tryz.ntmps157
 go_upto_region 2 with (first | (refine wpList_build1 rfl 161 0 (.const (.int .i64 1)) (.int .i64 1) rfl rfl _ SB.out ?_) | (refine wpList_store_mid rfl 161 (.tmp 3) (.tmp 9) rfl w.heap.size 0 (ndC1 ⟨1,0,0,Pure.noneB⟩).toArray rfl rfl (ndZ_there _) (ndC1_sz _) (all_oneCell_toArray (ndC1_ones _)) ?_))
 have C1:=C0
 clear C0 zv SB
 generalize (w.alloc (.cells ndZ.toArray 161)).setCells w.heap.size 0 (ndC1 ⟨1,0,0,Pure.noneB⟩)=W1 at *
 generalize w.heap.size=gx at *
 have c4:=bc_ 4 C1.out.dr.rb rfl
 have c5:=bc_ 5 C1.out.dr.rb rfl
 by_cases hb94:b=94
 ·subst hb94
  rw [if_pos rfl] at HC;rw [decide_eq_true rfl] at hneg;subst hneg
  go_wp2_with fail
  go_quiet (fail);have C1':=hide (C1.out.below (below_drewN (Below.refl W1.heap.size W1) nq));clear C1 c4 c5 x0;generalize W1.drewN nq=W2 at *;have c5:=bc_ 5 C1'.out.dr.rb rfl;have f5:=blk_frozen C1'.out.dr.rb 5;have C2:Hid (DC B g s (i+1) ns vn (.slice al nl cl) modes down w gx Pure.noneB (W2.setCell ⟨g,5,none⟩ (.int .i64 ((i:Int)+1)))):=C1'.out.moved (Lib.grownBy_setCell _ _ _ _) (C1'.out.dr.rb.at (i+1))
  go_wp2_with fail
  clear c5 f5 C1';generalize W2.setCell ⟨g,5,none⟩ (.int .i64 ((i:Int)+1))=W3 at *
  go_loopg [5,6,7] (s.size-(i+1)) (fun gk _ _ _ wx=>∃j T0 D0,j≤s.size∧gk=s.size-j∧DC B g s j ns vn (.slice al nl cl) modes (Pure.upd nl D0 down) w gx T0 wx∧ClR s j T0 D0 k T D)
  case atStart=>exact⟨(i+1),Pure.noneB,false,by omega,rfl,by rw [Pure.upd_false];exact C2.out,.inl HC.out⟩
  case round=>
   clear C2 HC;obtain⟨jj,T0,D0,jl,rfl,hC,hrem⟩:=hrel;have C3:=hide hC;have y4:=bc_ 4 hC.dr.rb rfl;have y5:=bc_ 5 hC.dr.rb rfl;clear hC;rcases hrem with hcl | ⟨hk,h93,rfl,rfl⟩
   ·have jlt:=hcl.beg.2.1
    have n93:=hcl.beg.1;rw [Pure.pkb_bt jlt] at n93;have xj:=fun w=>idx_str s (jj:Int) jj rfl (by omega) w
    have jj0:=nz_ jj;have jj1:(jj:Int)<(s.size:Int):=by omega
    have e93:(bt s jj != 93)=true:=by simpa using n93
    have HCL:=hide hcl;clear hcl n93;generalize bt s jj=bj at *
    go_wp2_with fail
    go_quiet (fail);have C4:=hide (C3.out.below (below_drewN (Below.refl wr.heap.size wr) nq));clear C3 y4 y5 xj e93;generalize wr.drewN nq=W4 at *
    obtain⟨j2,lo,hi,r,hit,hrem2⟩:∃j2 lo hi r,Pure.It s jj j2 lo hi r∧ClR s j2 (Pure.wid T0 lo hi) (D0 || decide (hi<lo)) k T D:=by
     cases HCL.out with
     | done h1 h2=>exact⟨_,_,_,_,h1,.inr ⟨rfl,h2,rfl,rfl⟩⟩
     | more h1 h2 h3=>exact⟨_,_,_,_,h1,.inl h3⟩
    have ib:=hit.bd;have il:=hit.lt;have ile:=hit.le
    have j2s:j2<s.size:=by
     rcases hrem2 with h | ⟨_,h,_⟩
     ·exact h.beg.2.1
     ·exact Pure.pkb_lt (s:=s) (i:=j2) (by rw [h];decide)
    have REM:=hide hrem2;clear hrem2 HCL
    cases hit with
    | one hsg hn45=>
     have SG:=hide (signed_any g jj j2 s vn _ modes _ lo W4 C4.out.dr.rb (by omega) hsg);rw [Pure.pkb_bt j2s] at hn45;have xk:=fun w=>idx_str s (j2:Int) j2 rfl (by omega) w
     have k0:=nz_ j2;have k1:(j2:Int)<(s.size:Int):=by omega
     have e45:(bt s j2 == 45)=false:=by simpa using hn45
     generalize bt s j2=b2 at *;clear hsg hn45
     go_wp2_with fail
     refine SG.out.mono ?_
     clear SG;rintro e w5 ⟨rfl,hg5,hr5⟩;have C5:=hide (C4.out.moved hg5 hr5);clear hg5 hr5 C4;have y4:=bc_ 4 C5.out.dr.rb rfl;have y5:=bc_ 5 C5.out.dr.rb rfl
     go_wp2_with fail
     go_quiet (fail);have CY:=hide (C5.out.below (below_drewN (Below.refl w5.heap.size w5) nq));clear C5 y4 y5 xk e45;generalize w5.drewN nq=W6 at *;have hdn:¬lo<lo:=by omega
     have g1:decide (lo<lo)=false:=decide_eq_false hdn
     have CX:Hid (DC B g s j2 ns vn (.slice al nl cl) modes (Pure.upd nl (D0 || decide (lo<lo)) down) w gx T0 W6):=by
      rw [g1,Bool.or_false];exact CY.out
     clear CY hdn
     go_wp2_with fail
     have wlo:(0:Int)≤lo:=by omega
     have cI:Hid (∃c:Nat,(Value.int .i64 lo:Value)=.int .i64 (c:Int)∧lo≤(c:Int)∧((c:Int)≤lo+1∨(c:Int)=lo)∧(256-lo).toNat=256-c∧c≤256∧DC B g s j2 ns vn (.slice al nl cl) modes (Pure.upd nl (D0 || decide (lo<lo)) down) w gx (Pure.wid T0 lo ((c:Int)-1)) W6):=by
      refine⟨lo.toNat,by rw [Int.toNat_of_nonneg wlo],by omega,.inr (by omega),by omega,by omega,?_⟩;rw [Int.toNat_of_nonneg wlo,Pure.wid_none T0 (by omega)];exact CX.out
     clear CX
     go_loopg [7] ((256-lo).toNat) (fun gk kv wx=>∃c:Nat,kv=.int .i64 (c:Int)∧lo≤(c:Int)∧((c:Int)≤lo+1∨(c:Int)=lo)∧gk=256-c∧c≤256∧DC B g s j2 ns vn (.slice al nl cl) modes (Pure.upd nl (D0 || decide (lo<lo)) down) w gx (Pure.wid T0 lo ((c:Int)-1)) wx)
     case atStart=>exact cI.out
     case round=>
      clear cI;obtain⟨c,rfl,c1,c2,rfl,c3,hD⟩:=hrel;have HD:=hide hD;clear hD;by_cases hlt:(c:Int)≤lo
      ·have d1:decide ((c:Int)≤lo)=true:=decide_eq_true hlt
       have ic0:=nz_ c;have ic1:(c:Int)<256:=by omega
       have wc:=wr_ (c:Int) (by omega) (by omega)
       have xc:=blk_cell (j:=3+c) HD.out.x (by
        rw [show 3+c=c+1+1+1 by omega];show (bitsL _)[c]?=_
        exact bitsL_get _ (by omega))
       have fc:=blk_frozen HD.out.x (3+c)
       have D2:Hid (DC B g s j2 ns vn (.slice al nl cl) modes (Pure.upd nl (D0 || decide (lo<lo)) down) w gx (Pure.wid T0 lo (((c+1:Nat):Int)-1)) (wr.setCell ⟨gx,3+c,none⟩ (.bool true))):=by
        have:=HD.out.bit c true;rw [Pure.wid_step T0 lo c c1] at this;rw [show ((c+1:Nat):Int)-1=(c:Int) by omega];exact this
       generalize Pure.wid T0 lo ((c:Int)-1) c=oldb at *;go_wp2;go_roundg (256-(c+1))
       case measure=>omega
       case rel=>exact⟨c+1,by go_num,by omega,.inl (by omega),rfl,by omega,D2.out⟩
      ·have d1:decide ((c:Int)≤lo)=false:=decide_eq_false hlt
       have EW:Hid (Pure.wid T0 lo ((c:Int)-1)=Pure.wid T0 lo lo):=by
        show _=_;rcases c2 with e | e
        ·rw [show (c:Int)-1=lo by omega]
        ·rw [Pure.wid_none T0 (by omega),Pure.wid_none T0 (by omega)]
       have CF:Hid (DC B g s j2 ns vn (.slice al nl cl) modes (Pure.upd nl (D0 || decide (lo<lo)) down) w gx (Pure.wid T0 lo lo) wr):=by
        have:=HD.out;rw [EW.out] at this;exact this
       clear HD EW;go_wp2;go_roundg (s.size-j2)
       case measure=>omega
       case rel=>exact⟨j2,Pure.wid T0 lo lo,D0 || decide (lo<lo),by omega,rfl,CF.out,REM.out⟩
    | range hsg h45 hsg2=>
     rename_i jm
     have jms:jm<s.size:=Pure.pkb_lt (s:=s) (i:=jm) (by rw [h45];decide);have SG:=hide (signed_any g jj jm s vn _ modes _ lo W4 C4.out.dr.rb (by omega) hsg);rw [Pure.pkb_bt jms] at h45;have xk:=fun w=>idx_str s (jm:Int) jm rfl (by omega) w
     rw [h45] at xk;have k0:=nz_ jm;have k1:(jm:Int)<(s.size:Int):=by omega
     have wm:=wr_ (jm:Int) (by omega) (by omega);have HS2:=hide hsg2;clear hsg hsg2 h45
     go_wp2_with fail
     refine SG.out.mono ?_
     clear SG;rintro e w5 ⟨rfl,hg5,hr5⟩;have C5:=hide (C4.out.moved hg5 hr5);clear hg5 hr5 C4;have y4:=bc_ 4 C5.out.dr.rb rfl;have y5:=bc_ 5 C5.out.dr.rb rfl
     go_wp2_with fail
     go_quiet (fail);have C6:=hide (C5.out.below (below_drewN (Below.refl w5.heap.size w5) nq));clear C5 y4 y5 xk;generalize w5.drewN nq=W6 at *;have y5:=bc_ 5 C6.out.dr.rb rfl;have f5:=blk_frozen C6.out.dr.rb 5;have C7:Hid (DC B g s (jm+1) ns vn (.slice al nl cl) modes (Pure.upd nl D0 down) w gx T0 (W6.setCell ⟨g,5,none⟩ (.int .i64 ((jm:Int)+1)))):=C6.out.moved (Lib.grownBy_setCell _ _ _ _) (C6.out.dr.rb.at (jm+1))
     go_wp2_with fail
     clear y5 f5 C6;generalize W6.setCell ⟨g,5,none⟩ (.int .i64 ((jm:Int)+1))=W7 at *;refine (signed_any g (jm+1) j2 s vn _ modes _ hi W7 C7.out.dr.rb (by omega) HS2.out).mono ?_
     rintro e w8 ⟨rfl,hg8,hr8⟩;have CY:=hide (C7.out.moved hg8 hr8);clear hg8 hr8 C7 HS2;by_cases hdn:hi<lo
     ·have g1:decide (hi<lo)=true:=decide_eq_true hdn
      by_cases hd0:Pure.upd nl D0 down<0
      ·have g2:decide (Pure.upd nl D0 down<0)=true:=decide_eq_true hd0
       have r3:=bc_ 3 CY.out.dr.rb rfl;have rf3:=blk_frozen CY.out.dr.rb 3;have r2:=bc_ 2 CY.out.dr.rb rfl
       have UP:Hid (Pure.upd nl (D0 || true) down=nl):=by
        show _=_;rw [←Pure.upd_or (by omega:(0:Int)≤(nl:Int)) D0 true down];unfold Pure.upd at hd0 ⊢;rw [if_pos ⟨rfl,hd0⟩]
       have CX:Hid (DC B g s j2 ns vn (.slice al nl cl) modes (Pure.upd nl (D0 || decide (hi<lo)) down) w gx T0 (w8.setCell ⟨g,3,none⟩ (.int .i64 (nl:Int)))):=by
        have:=CY.out.moved (Lib.grownBy_setCell w8 g 3 (.int .i64 (nl:Int))) (CY.out.dr.rb.dn nl);rw [g1,UP.out];exact this
       generalize hud:Pure.upd nl D0 down=ud at r3 g2;clear CY UP hdn hd0 hud
       go_wp2_with fail
       clear r2 r3 rf3 g2;generalize w8.setCell ⟨g,3,none⟩ (.int .i64 (nl:Int))=WX at *;have wlo:(0:Int)≤lo:=by omega
       have cI:Hid (∃c:Nat,(Value.int .i64 lo:Value)=.int .i64 (c:Int)∧lo≤(c:Int)∧((c:Int)≤hi+1∨(c:Int)=lo)∧(256-lo).toNat=256-c∧c≤256∧DC B g s j2 ns vn (.slice al nl cl) modes (Pure.upd nl (D0 || decide (hi<lo)) down) w gx (Pure.wid T0 lo ((c:Int)-1)) WX):=by
        refine⟨lo.toNat,by rw [Int.toNat_of_nonneg wlo],by omega,.inr (by omega),by omega,by omega,?_⟩;rw [Int.toNat_of_nonneg wlo,Pure.wid_none T0 (by omega)];exact CX.out
       clear CX
       go_loopg [7] ((256-lo).toNat) (fun gk kv wx=>∃c:Nat,kv=.int .i64 (c:Int)∧lo≤(c:Int)∧((c:Int)≤hi+1∨(c:Int)=lo)∧gk=256-c∧c≤256∧DC B g s j2 ns vn (.slice al nl cl) modes (Pure.upd nl (D0 || decide (hi<lo)) down) w gx (Pure.wid T0 lo ((c:Int)-1)) wx)
       case atStart=>exact cI.out
       case round=>
        clear cI;obtain⟨c,rfl,c1,c2,rfl,c3,hD⟩:=hrel;have HD:=hide hD;clear hD;by_cases hlt:(c:Int)≤hi
        ·have d1:decide ((c:Int)≤hi)=true:=decide_eq_true hlt
         have ic0:=nz_ c;have ic1:(c:Int)<256:=by omega
         have wc:=wr_ (c:Int) (by omega) (by omega)
         have xc:=blk_cell (j:=3+c) HD.out.x (by
          rw [show 3+c=c+1+1+1 by omega];show (bitsL _)[c]?=_
          exact bitsL_get _ (by omega))
         have fc:=blk_frozen HD.out.x (3+c)
         have D2:Hid (DC B g s j2 ns vn (.slice al nl cl) modes (Pure.upd nl (D0 || decide (hi<lo)) down) w gx (Pure.wid T0 lo (((c+1:Nat):Int)-1)) (wr.setCell ⟨gx,3+c,none⟩ (.bool true))):=by
          have:=HD.out.bit c true;rw [Pure.wid_step T0 lo c c1] at this;rw [show ((c+1:Nat):Int)-1=(c:Int) by omega];exact this
         generalize Pure.wid T0 lo ((c:Int)-1) c=oldb at *;go_wp2;go_roundg (256-(c+1))
         case measure=>omega
         case rel=>exact⟨c+1,by go_num,by omega,.inl (by omega),rfl,by omega,D2.out⟩
        ·have d1:decide ((c:Int)≤hi)=false:=decide_eq_false hlt
         have EW:Hid (Pure.wid T0 lo ((c:Int)-1)=Pure.wid T0 lo hi):=by
          show _=_;rcases c2 with e | e
          ·rw [show (c:Int)-1=hi by omega]
          ·rw [Pure.wid_none T0 (by omega),Pure.wid_none T0 (by omega)]
         have CF:Hid (DC B g s j2 ns vn (.slice al nl cl) modes (Pure.upd nl (D0 || decide (hi<lo)) down) w gx (Pure.wid T0 lo hi) wr):=by
          have:=HD.out;rw [EW.out] at this;exact this
         clear HD EW;go_wp2;go_roundg (s.size-j2)
         case measure=>omega
         case rel=>exact⟨j2,Pure.wid T0 lo hi,D0 || decide (hi<lo),by omega,rfl,CF.out,REM.out⟩
      ·have g2:decide (Pure.upd nl D0 down<0)=false:=decide_eq_false hd0
       have r3:=bc_ 3 CY.out.dr.rb rfl
       have UP:Hid (Pure.upd nl (D0 || true) down=Pure.upd nl D0 down):=by
        show _=_;rw [←Pure.upd_or (by omega:(0:Int)≤(nl:Int)) D0 true down];generalize Pure.upd nl D0 down=ud at *;unfold Pure.upd;rw [if_neg (fun h=>hd0 h.2)]
       have CX:Hid (DC B g s j2 ns vn (.slice al nl cl) modes (Pure.upd nl (D0 || decide (hi<lo)) down) w gx T0 w8):=by
        rw [g1,UP.out];exact CY.out
       generalize hud:Pure.upd nl D0 down=ud at r3 g2;clear CY UP hdn hd0 hud
       go_wp2_with fail
       clear r3 g2;have wlo:(0:Int)≤lo:=by omega
       have cI:Hid (∃c:Nat,(Value.int .i64 lo:Value)=.int .i64 (c:Int)∧lo≤(c:Int)∧((c:Int)≤hi+1∨(c:Int)=lo)∧(256-lo).toNat=256-c∧c≤256∧DC B g s j2 ns vn (.slice al nl cl) modes (Pure.upd nl (D0 || decide (hi<lo)) down) w gx (Pure.wid T0 lo ((c:Int)-1)) w8):=by
        refine⟨lo.toNat,by rw [Int.toNat_of_nonneg wlo],by omega,.inr (by omega),by omega,by omega,?_⟩;rw [Int.toNat_of_nonneg wlo,Pure.wid_none T0 (by omega)];exact CX.out
       clear CX
       go_loopg [7] ((256-lo).toNat) (fun gk kv wx=>∃c:Nat,kv=.int .i64 (c:Int)∧lo≤(c:Int)∧((c:Int)≤hi+1∨(c:Int)=lo)∧gk=256-c∧c≤256∧DC B g s j2 ns vn (.slice al nl cl) modes (Pure.upd nl (D0 || decide (hi<lo)) down) w gx (Pure.wid T0 lo ((c:Int)-1)) wx)
       case atStart=>exact cI.out
       case round=>
        clear cI;obtain⟨c,rfl,c1,c2,rfl,c3,hD⟩:=hrel;have HD:=hide hD;clear hD;by_cases hlt:(c:Int)≤hi
        ·have d1:decide ((c:Int)≤hi)=true:=decide_eq_true hlt
         have ic0:=nz_ c;have ic1:(c:Int)<256:=by omega
         have wc:=wr_ (c:Int) (by omega) (by omega)
         have xc:=blk_cell (j:=3+c) HD.out.x (by
          rw [show 3+c=c+1+1+1 by omega];show (bitsL _)[c]?=_
          exact bitsL_get _ (by omega))
         have fc:=blk_frozen HD.out.x (3+c)
         have D2:Hid (DC B g s j2 ns vn (.slice al nl cl) modes (Pure.upd nl (D0 || decide (hi<lo)) down) w gx (Pure.wid T0 lo (((c+1:Nat):Int)-1)) (wr.setCell ⟨gx,3+c,none⟩ (.bool true))):=by
          have:=HD.out.bit c true;rw [Pure.wid_step T0 lo c c1] at this;rw [show ((c+1:Nat):Int)-1=(c:Int) by omega];exact this
         generalize Pure.wid T0 lo ((c:Int)-1) c=oldb at *;go_wp2;go_roundg (256-(c+1))
         case measure=>omega
         case rel=>exact⟨c+1,by go_num,by omega,.inl (by omega),rfl,by omega,D2.out⟩
        ·have d1:decide ((c:Int)≤hi)=false:=decide_eq_false hlt
         have EW:Hid (Pure.wid T0 lo ((c:Int)-1)=Pure.wid T0 lo hi):=by
          show _=_;rcases c2 with e | e
          ·rw [show (c:Int)-1=hi by omega]
          ·rw [Pure.wid_none T0 (by omega),Pure.wid_none T0 (by omega)]
         have CF:Hid (DC B g s j2 ns vn (.slice al nl cl) modes (Pure.upd nl (D0 || decide (hi<lo)) down) w gx (Pure.wid T0 lo hi) wr):=by
          have:=HD.out;rw [EW.out] at this;exact this
         clear HD EW;go_wp2;go_roundg (s.size-j2)
         case measure=>omega
         case rel=>exact⟨j2,Pure.wid T0 lo hi,D0 || decide (hi<lo),by omega,rfl,CF.out,REM.out⟩
     ·have g1:decide (hi<lo)=false:=decide_eq_false hdn
      have CX:Hid (DC B g s j2 ns vn (.slice al nl cl) modes (Pure.upd nl (D0 || decide (hi<lo)) down) w gx T0 w8):=by
       rw [g1,Bool.or_false];exact CY.out
      clear CY hdn
      go_wp2_with fail
      have wlo:(0:Int)≤lo:=by omega
      have cI:Hid (∃c:Nat,(Value.int .i64 lo:Value)=.int .i64 (c:Int)∧lo≤(c:Int)∧((c:Int)≤hi+1∨(c:Int)=lo)∧(256-lo).toNat=256-c∧c≤256∧DC B g s j2 ns vn (.slice al nl cl) modes (Pure.upd nl (D0 || decide (hi<lo)) down) w gx (Pure.wid T0 lo ((c:Int)-1)) w8):=by
       refine⟨lo.toNat,by rw [Int.toNat_of_nonneg wlo],by omega,.inr (by omega),by omega,by omega,?_⟩;rw [Int.toNat_of_nonneg wlo,Pure.wid_none T0 (by omega)];exact CX.out
      clear CX
      go_loopg [7] ((256-lo).toNat) (fun gk kv wx=>∃c:Nat,kv=.int .i64 (c:Int)∧lo≤(c:Int)∧((c:Int)≤hi+1∨(c:Int)=lo)∧gk=256-c∧c≤256∧DC B g s j2 ns vn (.slice al nl cl) modes (Pure.upd nl (D0 || decide (hi<lo)) down) w gx (Pure.wid T0 lo ((c:Int)-1)) wx)
      case atStart=>exact cI.out
      case round=>
       clear cI;obtain⟨c,rfl,c1,c2,rfl,c3,hD⟩:=hrel;have HD:=hide hD;clear hD;by_cases hlt:(c:Int)≤hi
       ·have d1:decide ((c:Int)≤hi)=true:=decide_eq_true hlt
        have ic0:=nz_ c;have ic1:(c:Int)<256:=by omega
        have wc:=wr_ (c:Int) (by omega) (by omega)
        have xc:=blk_cell (j:=3+c) HD.out.x (by
         rw [show 3+c=c+1+1+1 by omega];show (bitsL _)[c]?=_
         exact bitsL_get _ (by omega))
        have fc:=blk_frozen HD.out.x (3+c)
        have D2:Hid (DC B g s j2 ns vn (.slice al nl cl) modes (Pure.upd nl (D0 || decide (hi<lo)) down) w gx (Pure.wid T0 lo (((c+1:Nat):Int)-1)) (wr.setCell ⟨gx,3+c,none⟩ (.bool true))):=by
         have:=HD.out.bit c true;rw [Pure.wid_step T0 lo c c1] at this;rw [show ((c+1:Nat):Int)-1=(c:Int) by omega];exact this
        generalize Pure.wid T0 lo ((c:Int)-1) c=oldb at *;go_wp2;go_roundg (256-(c+1))
        case measure=>omega
        case rel=>exact⟨c+1,by go_num,by omega,.inl (by omega),rfl,by omega,D2.out⟩
       ·have d1:decide ((c:Int)≤hi)=false:=decide_eq_false hlt
        have EW:Hid (Pure.wid T0 lo ((c:Int)-1)=Pure.wid T0 lo hi):=by
         show _=_;rcases c2 with e | e
         ·rw [show (c:Int)-1=hi by omega]
         ·rw [Pure.wid_none T0 (by omega),Pure.wid_none T0 (by omega)]
        have CF:Hid (DC B g s j2 ns vn (.slice al nl cl) modes (Pure.upd nl (D0 || decide (hi<lo)) down) w gx (Pure.wid T0 lo hi) wr):=by
         have:=HD.out;rw [EW.out] at this;exact this
        clear HD EW;go_wp2;go_roundg (s.size-j2)
        case measure=>omega
        case rel=>exact⟨j2,Pure.wid T0 lo hi,D0 || decide (hi<lo),by omega,rfl,CF.out,REM.out⟩
   ·have jlt:jj<s.size:=Pure.pkb_lt (s:=s) (i:=jj) (by rw [h93];decide)
    rw [Pure.pkb_bt jlt] at h93;have xj:=fun w=>idx_str s (jj:Int) jj rfl (by omega) w
    rw [h93] at xj;have jj0:=nz_ jj;have jj1:(jj:Int)<(s.size:Int):=by omega
    have wj:=wr_ (jj:Int) (by omega) (by omega);have HJK:=hide hk;clear hk h93
    go_wp2_with fail
    go_quiet (fail);have C4:=hide (C3.out.below (below_drewN (Below.refl wr.heap.size wr) nq));clear C3 y4 y5 xj;generalize wr.drewN nq=W4 at *;have y5:=bc_ 5 C4.out.dr.rb rfl;have f5:=blk_frozen C4.out.dr.rb 5;have C6:Hid (DC B g s (jj+1) ns vn (.slice al nl cl) modes (Pure.upd nl D0 down) w gx T0 (W4.setCell ⟨g,5,none⟩ (.int .i64 ((jj:Int)+1)))):=C4.out.moved (Lib.grownBy_setCell _ _ _ _) (C4.out.dr.rb.at (jj+1))
    go_wp2_with fail
    clear y5 f5 C4;generalize W4.setCell ⟨g,5,none⟩ (.int .i64 ((jj:Int)+1))=W5 at *
    go_loopg [8] 256 (fun gk kv wx=>∃c:Nat,c≤256∧gk=256-c∧kv=.int .i64 c∧DC B g s (jj+1) ns vn (.slice al nl cl) modes (Pure.upd nl D0 down) w gx (midT T0 (fun n=>T0 n != true) c) wx)
    case atStart=>exact⟨0,Nat.zero_le _,rfl,rfl,by rw [midT_zero];exact C6.out⟩
    case round=>
     clear C6;obtain⟨c,cl2,rfl,rfl,hD⟩:=hrel;have HD:=hide hD;clear hD;by_cases hlt:c<256
     ·have d1:decide ((c:Int)<256)=true:=decide_eq_true (by omega)
      have ic0:=nz_ c;have ic1:(c:Int)<256:=by omega
      have wc:=wr_ (c:Int) (by omega) (by omega)
      have xc:wr.cell? ⟨gx,3+c,none⟩=some (.bool (T0 c)):=by
       have:=blk_cell (j:=3+c) HD.out.x (u:=.bool (T0 c)) (by
        rw [show 3+c=c+1+1+1 by omega];show (bitsL _)[c]?=_;rw [bitsL_get _ hlt]
        simp [midT])
       exact this
      have fc:=blk_frozen HD.out.x (3+c)
      have D2:Hid (DC B g s (jj+1) ns vn (.slice al nl cl) modes (Pure.upd nl D0 down) w gx (midT T0 (fun n=>T0 n != true) (c+1)) (wr.setCell ⟨gx,3+c,none⟩ (.bool (T0 c != true)))):=by
       have:=HD.out.bit c (T0 c != true)
       have e:(fun n=>if n=c then (T0 c != true) else midT T0 (fun n=>T0 n != true) c n)=midT T0 (fun n=>T0 n != true) (c+1):=by
        funext n;unfold midT;by_cases e:n=c
        ·subst e;simp
        ·by_cases h2:n<c
         ·have h3:n<c+1:=by omega
          simp [e,h2,h3]
         ·have h3:¬n<c+1:=by omega
          simp [e,h2,h3]
       rw [e] at this;exact this
      generalize T0 c=tc at *;cases tc
      all_goals
       go_wp2;go_roundg (256-(c+1))
       case measure=>omega
       case rel=>exact⟨c+1,by omega,rfl,by go_num,D2.out⟩
     ·have d1:decide ((c:Int)<256)=false:=decide_eq_false (by omega)
      have e:c=256:=by omega
      subst e
      have FIN:Hid (ndC1 ⟨1,0,0,midT T0 (fun n=>T0 n != true) 256⟩=ndC1 ⟨1,0,0,(Pure.notB T0)⟩):=by
       show _=_;unfold ndC1;simp only;rw [midT_end];congr 4;funext n;simp [Pure.notB]
      have HX:=hide HD.out.there;rw [FIN.out] at HX;clear FIN;generalize hU:(Pure.notB T0)=U at *
      go_wp2_with (refine wpList_load_mid rfl 161 (.tmp 3) rfl gx 0 rfl (ndC1 ⟨1,0,0,U⟩) _ HX.out Tryz.underlying161 rfl (by rw [ndC1_length];exact node_size) ?_)
      refine (node_any B g (jj+1) s ns vn (.slice al nl cl) modes (Pure.upd nl D0 down) ⟨1,0,0,U⟩ wr HD.out.dr hl).mono ?_
      rintro e w9 ⟨rfl,hk9,vn9,hd9⟩;have K9:=hide (HD.out.dk.trans hk9);have D9:=hide hd9;clear hk9 hd9 HX;go_wp2;go_ret;exact⟨rfl,K9.out,vn9,by rw [←HJK.out];first | exact D9.out | (rw [if_pos rfl];exact D9.out) | (rw [if_neg (by decide)];exact D9.out)⟩
 ·have e94:(b == 94)=false:=by simpa using hb94
  rw [if_neg hb94] at HC;rw [decide_eq_false hb94] at hneg;subst hneg;clear hb94
  go_wp2_with fail
  go_quiet (fail);have C2:=hide (C1.out.below (below_drewN (Below.refl W1.heap.size W1) nq));clear C1 c4 c5 x0 e94;generalize W1.drewN nq=W2 at *
  go_wp2_with fail
  go_loopg [5,6,7] (s.size-i) (fun gk _ _ _ wx=>∃j T0 D0,j≤s.size∧gk=s.size-j∧DC B g s j ns vn (.slice al nl cl) modes (Pure.upd nl D0 down) w gx T0 wx∧ClR s j T0 D0 k T D)
  case atStart=>exact⟨i,Pure.noneB,false,by omega,rfl,by rw [Pure.upd_false];exact C2.out,.inl HC.out⟩
  case round=>
   clear C2 HC;obtain⟨jj,T0,D0,jl,rfl,hC,hrem⟩:=hrel;have C3:=hide hC;have y4:=bc_ 4 hC.dr.rb rfl;have y5:=bc_ 5 hC.dr.rb rfl;clear hC;rcases hrem with hcl | ⟨hk,h93,rfl,rfl⟩
   ·have jlt:=hcl.beg.2.1
    have n93:=hcl.beg.1;rw [Pure.pkb_bt jlt] at n93;have xj:=fun w=>idx_str s (jj:Int) jj rfl (by omega) w
    have jj0:=nz_ jj;have jj1:(jj:Int)<(s.size:Int):=by omega
    have e93:(bt s jj != 93)=true:=by simpa using n93
    have HCL:=hide hcl;clear hcl n93;generalize bt s jj=bj at *
    go_wp2_with fail
    go_quiet (fail);have C4:=hide (C3.out.below (below_drewN (Below.refl wr.heap.size wr) nq));clear C3 y4 y5 xj e93;generalize wr.drewN nq=W4 at *
    obtain⟨j2,lo,hi,r,hit,hrem2⟩:∃j2 lo hi r,Pure.It s jj j2 lo hi r∧ClR s j2 (Pure.wid T0 lo hi) (D0 || decide (hi<lo)) k T D:=by
     cases HCL.out with
     | done h1 h2=>exact⟨_,_,_,_,h1,.inr ⟨rfl,h2,rfl,rfl⟩⟩
     | more h1 h2 h3=>exact⟨_,_,_,_,h1,.inl h3⟩
    have ib:=hit.bd;have il:=hit.lt;have ile:=hit.le
    have j2s:j2<s.size:=by
     rcases hrem2 with h | ⟨_,h,_⟩
     ·exact h.beg.2.1
     ·exact Pure.pkb_lt (s:=s) (i:=j2) (by rw [h];decide)
    have REM:=hide hrem2;clear hrem2 HCL
    cases hit with
    | one hsg hn45=>
     have SG:=hide (signed_any g jj j2 s vn _ modes _ lo W4 C4.out.dr.rb (by omega) hsg);rw [Pure.pkb_bt j2s] at hn45;have xk:=fun w=>idx_str s (j2:Int) j2 rfl (by omega) w
     have k0:=nz_ j2;have k1:(j2:Int)<(s.size:Int):=by omega
     have e45:(bt s j2 == 45)=false:=by simpa using hn45
     generalize bt s j2=b2 at *;clear hsg hn45
     go_wp2_with fail
     refine SG.out.mono ?_
     clear SG;rintro e w5 ⟨rfl,hg5,hr5⟩;have C5:=hide (C4.out.moved hg5 hr5);clear hg5 hr5 C4;have y4:=bc_ 4 C5.out.dr.rb rfl;have y5:=bc_ 5 C5.out.dr.rb rfl
     go_wp2_with fail
     go_quiet (fail);have CY:=hide (C5.out.below (below_drewN (Below.refl w5.heap.size w5) nq));clear C5 y4 y5 xk e45;generalize w5.drewN nq=W6 at *;have hdn:¬lo<lo:=by omega
     have g1:decide (lo<lo)=false:=decide_eq_false hdn
     have CX:Hid (DC B g s j2 ns vn (.slice al nl cl) modes (Pure.upd nl (D0 || decide (lo<lo)) down) w gx T0 W6):=by
      rw [g1,Bool.or_false];exact CY.out
     clear CY hdn
     go_wp2_with fail
     have wlo:(0:Int)≤lo:=by omega
     have cI:Hid (∃c:Nat,(Value.int .i64 lo:Value)=.int .i64 (c:Int)∧lo≤(c:Int)∧((c:Int)≤lo+1∨(c:Int)=lo)∧(256-lo).toNat=256-c∧c≤256∧DC B g s j2 ns vn (.slice al nl cl) modes (Pure.upd nl (D0 || decide (lo<lo)) down) w gx (Pure.wid T0 lo ((c:Int)-1)) W6):=by
      refine⟨lo.toNat,by rw [Int.toNat_of_nonneg wlo],by omega,.inr (by omega),by omega,by omega,?_⟩;rw [Int.toNat_of_nonneg wlo,Pure.wid_none T0 (by omega)];exact CX.out
     clear CX
     go_loopg [7] ((256-lo).toNat) (fun gk kv wx=>∃c:Nat,kv=.int .i64 (c:Int)∧lo≤(c:Int)∧((c:Int)≤lo+1∨(c:Int)=lo)∧gk=256-c∧c≤256∧DC B g s j2 ns vn (.slice al nl cl) modes (Pure.upd nl (D0 || decide (lo<lo)) down) w gx (Pure.wid T0 lo ((c:Int)-1)) wx)
     case atStart=>exact cI.out
     case round=>
      clear cI;obtain⟨c,rfl,c1,c2,rfl,c3,hD⟩:=hrel;have HD:=hide hD;clear hD;by_cases hlt:(c:Int)≤lo
      ·have d1:decide ((c:Int)≤lo)=true:=decide_eq_true hlt
       have ic0:=nz_ c;have ic1:(c:Int)<256:=by omega
       have wc:=wr_ (c:Int) (by omega) (by omega)
       have xc:=blk_cell (j:=3+c) HD.out.x (by
        rw [show 3+c=c+1+1+1 by omega];show (bitsL _)[c]?=_
        exact bitsL_get _ (by omega))
       have fc:=blk_frozen HD.out.x (3+c)
       have D2:Hid (DC B g s j2 ns vn (.slice al nl cl) modes (Pure.upd nl (D0 || decide (lo<lo)) down) w gx (Pure.wid T0 lo (((c+1:Nat):Int)-1)) (wr.setCell ⟨gx,3+c,none⟩ (.bool true))):=by
        have:=HD.out.bit c true;rw [Pure.wid_step T0 lo c c1] at this;rw [show ((c+1:Nat):Int)-1=(c:Int) by omega];exact this
       generalize Pure.wid T0 lo ((c:Int)-1) c=oldb at *;go_wp2;go_roundg (256-(c+1))
       case measure=>omega
       case rel=>exact⟨c+1,by go_num,by omega,.inl (by omega),rfl,by omega,D2.out⟩
      ·have d1:decide ((c:Int)≤lo)=false:=decide_eq_false hlt
       have EW:Hid (Pure.wid T0 lo ((c:Int)-1)=Pure.wid T0 lo lo):=by
        show _=_;rcases c2 with e | e
        ·rw [show (c:Int)-1=lo by omega]
        ·rw [Pure.wid_none T0 (by omega),Pure.wid_none T0 (by omega)]
       have CF:Hid (DC B g s j2 ns vn (.slice al nl cl) modes (Pure.upd nl (D0 || decide (lo<lo)) down) w gx (Pure.wid T0 lo lo) wr):=by
        have:=HD.out;rw [EW.out] at this;exact this
       clear HD EW;go_wp2;go_roundg (s.size-j2)
       case measure=>omega
       case rel=>exact⟨j2,Pure.wid T0 lo lo,D0 || decide (lo<lo),by omega,rfl,CF.out,REM.out⟩
    | range hsg h45 hsg2=>
     rename_i jm
     have jms:jm<s.size:=Pure.pkb_lt (s:=s) (i:=jm) (by rw [h45];decide);have SG:=hide (signed_any g jj jm s vn _ modes _ lo W4 C4.out.dr.rb (by omega) hsg);rw [Pure.pkb_bt jms] at h45;have xk:=fun w=>idx_str s (jm:Int) jm rfl (by omega) w
     rw [h45] at xk;have k0:=nz_ jm;have k1:(jm:Int)<(s.size:Int):=by omega
     have wm:=wr_ (jm:Int) (by omega) (by omega);have HS2:=hide hsg2;clear hsg hsg2 h45
     go_wp2_with fail
     refine SG.out.mono ?_
     clear SG;rintro e w5 ⟨rfl,hg5,hr5⟩;have C5:=hide (C4.out.moved hg5 hr5);clear hg5 hr5 C4;have y4:=bc_ 4 C5.out.dr.rb rfl;have y5:=bc_ 5 C5.out.dr.rb rfl
     go_wp2_with fail
     go_quiet (fail);have C6:=hide (C5.out.below (below_drewN (Below.refl w5.heap.size w5) nq));clear C5 y4 y5 xk;generalize w5.drewN nq=W6 at *;have y5:=bc_ 5 C6.out.dr.rb rfl;have f5:=blk_frozen C6.out.dr.rb 5;have C7:Hid (DC B g s (jm+1) ns vn (.slice al nl cl) modes (Pure.upd nl D0 down) w gx T0 (W6.setCell ⟨g,5,none⟩ (.int .i64 ((jm:Int)+1)))):=C6.out.moved (Lib.grownBy_setCell _ _ _ _) (C6.out.dr.rb.at (jm+1))
     go_wp2_with fail
     clear y5 f5 C6;generalize W6.setCell ⟨g,5,none⟩ (.int .i64 ((jm:Int)+1))=W7 at *;refine (signed_any g (jm+1) j2 s vn _ modes _ hi W7 C7.out.dr.rb (by omega) HS2.out).mono ?_
     rintro e w8 ⟨rfl,hg8,hr8⟩;have CY:=hide (C7.out.moved hg8 hr8);clear hg8 hr8 C7 HS2;by_cases hdn:hi<lo
     ·have g1:decide (hi<lo)=true:=decide_eq_true hdn
      by_cases hd0:Pure.upd nl D0 down<0
      ·have g2:decide (Pure.upd nl D0 down<0)=true:=decide_eq_true hd0
       have r3:=bc_ 3 CY.out.dr.rb rfl;have rf3:=blk_frozen CY.out.dr.rb 3;have r2:=bc_ 2 CY.out.dr.rb rfl
       have UP:Hid (Pure.upd nl (D0 || true) down=nl):=by
        show _=_;rw [←Pure.upd_or (by omega:(0:Int)≤(nl:Int)) D0 true down];unfold Pure.upd at hd0 ⊢;rw [if_pos ⟨rfl,hd0⟩]
       have CX:Hid (DC B g s j2 ns vn (.slice al nl cl) modes (Pure.upd nl (D0 || decide (hi<lo)) down) w gx T0 (w8.setCell ⟨g,3,none⟩ (.int .i64 (nl:Int)))):=by
        have:=CY.out.moved (Lib.grownBy_setCell w8 g 3 (.int .i64 (nl:Int))) (CY.out.dr.rb.dn nl);rw [g1,UP.out];exact this
       generalize hud:Pure.upd nl D0 down=ud at r3 g2;clear CY UP hdn hd0 hud
       go_wp2_with fail
       clear r2 r3 rf3 g2;generalize w8.setCell ⟨g,3,none⟩ (.int .i64 (nl:Int))=WX at *;have wlo:(0:Int)≤lo:=by omega
       have cI:Hid (∃c:Nat,(Value.int .i64 lo:Value)=.int .i64 (c:Int)∧lo≤(c:Int)∧((c:Int)≤hi+1∨(c:Int)=lo)∧(256-lo).toNat=256-c∧c≤256∧DC B g s j2 ns vn (.slice al nl cl) modes (Pure.upd nl (D0 || decide (hi<lo)) down) w gx (Pure.wid T0 lo ((c:Int)-1)) WX):=by
        refine⟨lo.toNat,by rw [Int.toNat_of_nonneg wlo],by omega,.inr (by omega),by omega,by omega,?_⟩;rw [Int.toNat_of_nonneg wlo,Pure.wid_none T0 (by omega)];exact CX.out
       clear CX
       go_loopg [7] ((256-lo).toNat) (fun gk kv wx=>∃c:Nat,kv=.int .i64 (c:Int)∧lo≤(c:Int)∧((c:Int)≤hi+1∨(c:Int)=lo)∧gk=256-c∧c≤256∧DC B g s j2 ns vn (.slice al nl cl) modes (Pure.upd nl (D0 || decide (hi<lo)) down) w gx (Pure.wid T0 lo ((c:Int)-1)) wx)
       case atStart=>exact cI.out
       case round=>
        clear cI;obtain⟨c,rfl,c1,c2,rfl,c3,hD⟩:=hrel;have HD:=hide hD;clear hD;by_cases hlt:(c:Int)≤hi
        ·have d1:decide ((c:Int)≤hi)=true:=decide_eq_true hlt
         have ic0:=nz_ c;have ic1:(c:Int)<256:=by omega
         have wc:=wr_ (c:Int) (by omega) (by omega)
         have xc:=blk_cell (j:=3+c) HD.out.x (by
          rw [show 3+c=c+1+1+1 by omega];show (bitsL _)[c]?=_
          exact bitsL_get _ (by omega))
         have fc:=blk_frozen HD.out.x (3+c)
         have D2:Hid (DC B g s j2 ns vn (.slice al nl cl) modes (Pure.upd nl (D0 || decide (hi<lo)) down) w gx (Pure.wid T0 lo (((c+1:Nat):Int)-1)) (wr.setCell ⟨gx,3+c,none⟩ (.bool true))):=by
          have:=HD.out.bit c true;rw [Pure.wid_step T0 lo c c1] at this;rw [show ((c+1:Nat):Int)-1=(c:Int) by omega];exact this
         generalize Pure.wid T0 lo ((c:Int)-1) c=oldb at *;go_wp2;go_roundg (256-(c+1))
         case measure=>omega
         case rel=>exact⟨c+1,by go_num,by omega,.inl (by omega),rfl,by omega,D2.out⟩
        ·have d1:decide ((c:Int)≤hi)=false:=decide_eq_false hlt
         have EW:Hid (Pure.wid T0 lo ((c:Int)-1)=Pure.wid T0 lo hi):=by
          show _=_;rcases c2 with e | e
          ·rw [show (c:Int)-1=hi by omega]
          ·rw [Pure.wid_none T0 (by omega),Pure.wid_none T0 (by omega)]
         have CF:Hid (DC B g s j2 ns vn (.slice al nl cl) modes (Pure.upd nl (D0 || decide (hi<lo)) down) w gx (Pure.wid T0 lo hi) wr):=by
          have:=HD.out;rw [EW.out] at this;exact this
         clear HD EW;go_wp2;go_roundg (s.size-j2)
         case measure=>omega
         case rel=>exact⟨j2,Pure.wid T0 lo hi,D0 || decide (hi<lo),by omega,rfl,CF.out,REM.out⟩
      ·have g2:decide (Pure.upd nl D0 down<0)=false:=decide_eq_false hd0
       have r3:=bc_ 3 CY.out.dr.rb rfl
       have UP:Hid (Pure.upd nl (D0 || true) down=Pure.upd nl D0 down):=by
        show _=_;rw [←Pure.upd_or (by omega:(0:Int)≤(nl:Int)) D0 true down];generalize Pure.upd nl D0 down=ud at *;unfold Pure.upd;rw [if_neg (fun h=>hd0 h.2)]
       have CX:Hid (DC B g s j2 ns vn (.slice al nl cl) modes (Pure.upd nl (D0 || decide (hi<lo)) down) w gx T0 w8):=by
        rw [g1,UP.out];exact CY.out
       generalize hud:Pure.upd nl D0 down=ud at r3 g2;clear CY UP hdn hd0 hud
       go_wp2_with fail
       clear r3 g2;have wlo:(0:Int)≤lo:=by omega
       have cI:Hid (∃c:Nat,(Value.int .i64 lo:Value)=.int .i64 (c:Int)∧lo≤(c:Int)∧((c:Int)≤hi+1∨(c:Int)=lo)∧(256-lo).toNat=256-c∧c≤256∧DC B g s j2 ns vn (.slice al nl cl) modes (Pure.upd nl (D0 || decide (hi<lo)) down) w gx (Pure.wid T0 lo ((c:Int)-1)) w8):=by
        refine⟨lo.toNat,by rw [Int.toNat_of_nonneg wlo],by omega,.inr (by omega),by omega,by omega,?_⟩;rw [Int.toNat_of_nonneg wlo,Pure.wid_none T0 (by omega)];exact CX.out
       clear CX
       go_loopg [7] ((256-lo).toNat) (fun gk kv wx=>∃c:Nat,kv=.int .i64 (c:Int)∧lo≤(c:Int)∧((c:Int)≤hi+1∨(c:Int)=lo)∧gk=256-c∧c≤256∧DC B g s j2 ns vn (.slice al nl cl) modes (Pure.upd nl (D0 || decide (hi<lo)) down) w gx (Pure.wid T0 lo ((c:Int)-1)) wx)
       case atStart=>exact cI.out
       case round=>
        clear cI;obtain⟨c,rfl,c1,c2,rfl,c3,hD⟩:=hrel;have HD:=hide hD;clear hD;by_cases hlt:(c:Int)≤hi
        ·have d1:decide ((c:Int)≤hi)=true:=decide_eq_true hlt
         have ic0:=nz_ c;have ic1:(c:Int)<256:=by omega
         have wc:=wr_ (c:Int) (by omega) (by omega)
         have xc:=blk_cell (j:=3+c) HD.out.x (by
          rw [show 3+c=c+1+1+1 by omega];show (bitsL _)[c]?=_
          exact bitsL_get _ (by omega))
         have fc:=blk_frozen HD.out.x (3+c)
         have D2:Hid (DC B g s j2 ns vn (.slice al nl cl) modes (Pure.upd nl (D0 || decide (hi<lo)) down) w gx (Pure.wid T0 lo (((c+1:Nat):Int)-1)) (wr.setCell ⟨gx,3+c,none⟩ (.bool true))):=by
          have:=HD.out.bit c true;rw [Pure.wid_step T0 lo c c1] at this;rw [show ((c+1:Nat):Int)-1=(c:Int) by omega];exact this
         generalize Pure.wid T0 lo ((c:Int)-1) c=oldb at *;go_wp2;go_roundg (256-(c+1))
         case measure=>omega
         case rel=>exact⟨c+1,by go_num,by omega,.inl (by omega),rfl,by omega,D2.out⟩
        ·have d1:decide ((c:Int)≤hi)=false:=decide_eq_false hlt
         have EW:Hid (Pure.wid T0 lo ((c:Int)-1)=Pure.wid T0 lo hi):=by
          show _=_;rcases c2 with e | e
          ·rw [show (c:Int)-1=hi by omega]
          ·rw [Pure.wid_none T0 (by omega),Pure.wid_none T0 (by omega)]
         have CF:Hid (DC B g s j2 ns vn (.slice al nl cl) modes (Pure.upd nl (D0 || decide (hi<lo)) down) w gx (Pure.wid T0 lo hi) wr):=by
          have:=HD.out;rw [EW.out] at this;exact this
         clear HD EW;go_wp2;go_roundg (s.size-j2)
         case measure=>omega
         case rel=>exact⟨j2,Pure.wid T0 lo hi,D0 || decide (hi<lo),by omega,rfl,CF.out,REM.out⟩
     ·have g1:decide (hi<lo)=false:=decide_eq_false hdn
      have CX:Hid (DC B g s j2 ns vn (.slice al nl cl) modes (Pure.upd nl (D0 || decide (hi<lo)) down) w gx T0 w8):=by
       rw [g1,Bool.or_false];exact CY.out
      clear CY hdn
      go_wp2_with fail
      have wlo:(0:Int)≤lo:=by omega
      have cI:Hid (∃c:Nat,(Value.int .i64 lo:Value)=.int .i64 (c:Int)∧lo≤(c:Int)∧((c:Int)≤hi+1∨(c:Int)=lo)∧(256-lo).toNat=256-c∧c≤256∧DC B g s j2 ns vn (.slice al nl cl) modes (Pure.upd nl (D0 || decide (hi<lo)) down) w gx (Pure.wid T0 lo ((c:Int)-1)) w8):=by
       refine⟨lo.toNat,by rw [Int.toNat_of_nonneg wlo],by omega,.inr (by omega),by omega,by omega,?_⟩;rw [Int.toNat_of_nonneg wlo,Pure.wid_none T0 (by omega)];exact CX.out
      clear CX
      go_loopg [7] ((256-lo).toNat) (fun gk kv wx=>∃c:Nat,kv=.int .i64 (c:Int)∧lo≤(c:Int)∧((c:Int)≤hi+1∨(c:Int)=lo)∧gk=256-c∧c≤256∧DC B g s j2 ns vn (.slice al nl cl) modes (Pure.upd nl (D0 || decide (hi<lo)) down) w gx (Pure.wid T0 lo ((c:Int)-1)) wx)
      case atStart=>exact cI.out
      case round=>
       clear cI;obtain⟨c,rfl,c1,c2,rfl,c3,hD⟩:=hrel;have HD:=hide hD;clear hD;by_cases hlt:(c:Int)≤hi
       ·have d1:decide ((c:Int)≤hi)=true:=decide_eq_true hlt
        have ic0:=nz_ c;have ic1:(c:Int)<256:=by omega
        have wc:=wr_ (c:Int) (by omega) (by omega)
        have xc:=blk_cell (j:=3+c) HD.out.x (by
         rw [show 3+c=c+1+1+1 by omega];show (bitsL _)[c]?=_
         exact bitsL_get _ (by omega))
        have fc:=blk_frozen HD.out.x (3+c)
        have D2:Hid (DC B g s j2 ns vn (.slice al nl cl) modes (Pure.upd nl (D0 || decide (hi<lo)) down) w gx (Pure.wid T0 lo (((c+1:Nat):Int)-1)) (wr.setCell ⟨gx,3+c,none⟩ (.bool true))):=by
         have:=HD.out.bit c true;rw [Pure.wid_step T0 lo c c1] at this;rw [show ((c+1:Nat):Int)-1=(c:Int) by omega];exact this
        generalize Pure.wid T0 lo ((c:Int)-1) c=oldb at *;go_wp2;go_roundg (256-(c+1))
        case measure=>omega
        case rel=>exact⟨c+1,by go_num,by omega,.inl (by omega),rfl,by omega,D2.out⟩
       ·have d1:decide ((c:Int)≤hi)=false:=decide_eq_false hlt
        have EW:Hid (Pure.wid T0 lo ((c:Int)-1)=Pure.wid T0 lo hi):=by
         show _=_;rcases c2 with e | e
         ·rw [show (c:Int)-1=hi by omega]
         ·rw [Pure.wid_none T0 (by omega),Pure.wid_none T0 (by omega)]
        have CF:Hid (DC B g s j2 ns vn (.slice al nl cl) modes (Pure.upd nl (D0 || decide (hi<lo)) down) w gx (Pure.wid T0 lo hi) wr):=by
         have:=HD.out;rw [EW.out] at this;exact this
        clear HD EW;go_wp2;go_roundg (s.size-j2)
        case measure=>omega
        case rel=>exact⟨j2,Pure.wid T0 lo hi,D0 || decide (hi<lo),by omega,rfl,CF.out,REM.out⟩
   ·have jlt:jj<s.size:=Pure.pkb_lt (s:=s) (i:=jj) (by rw [h93];decide)
    rw [Pure.pkb_bt jlt] at h93;have xj:=fun w=>idx_str s (jj:Int) jj rfl (by omega) w
    rw [h93] at xj;have jj0:=nz_ jj;have jj1:(jj:Int)<(s.size:Int):=by omega
    have wj:=wr_ (jj:Int) (by omega) (by omega);have HJK:=hide hk;clear hk h93
    go_wp2_with fail
    go_quiet (fail);have C4:=hide (C3.out.below (below_drewN (Below.refl wr.heap.size wr) nq));clear C3 y4 y5 xj;generalize wr.drewN nq=W4 at *;have y5:=bc_ 5 C4.out.dr.rb rfl;have f5:=blk_frozen C4.out.dr.rb 5;have C6:Hid (DC B g s (jj+1) ns vn (.slice al nl cl) modes (Pure.upd nl D0 down) w gx T0 (W4.setCell ⟨g,5,none⟩ (.int .i64 ((jj:Int)+1)))):=C4.out.moved (Lib.grownBy_setCell _ _ _ _) (C4.out.dr.rb.at (jj+1))
    go_wp2_with fail
    clear y5 f5 C4;generalize W4.setCell ⟨g,5,none⟩ (.int .i64 ((jj:Int)+1))=W5 at *
    go_loopg [8] 256 (fun gk kv wx=>∃c:Nat,c≤256∧gk=256-c∧kv=.int .i64 c∧DC B g s (jj+1) ns vn (.slice al nl cl) modes (Pure.upd nl D0 down) w gx (midT T0 (fun n=>T0 n != false) c) wx)
    case atStart=>exact⟨0,Nat.zero_le _,rfl,rfl,by rw [midT_zero];exact C6.out⟩
    case round=>
     clear C6;obtain⟨c,cl2,rfl,rfl,hD⟩:=hrel;have HD:=hide hD;clear hD;by_cases hlt:c<256
     ·have d1:decide ((c:Int)<256)=true:=decide_eq_true (by omega)
      have ic0:=nz_ c;have ic1:(c:Int)<256:=by omega
      have wc:=wr_ (c:Int) (by omega) (by omega)
      have xc:wr.cell? ⟨gx,3+c,none⟩=some (.bool (T0 c)):=by
       have:=blk_cell (j:=3+c) HD.out.x (u:=.bool (T0 c)) (by
        rw [show 3+c=c+1+1+1 by omega];show (bitsL _)[c]?=_;rw [bitsL_get _ hlt]
        simp [midT])
       exact this
      have fc:=blk_frozen HD.out.x (3+c)
      have D2:Hid (DC B g s (jj+1) ns vn (.slice al nl cl) modes (Pure.upd nl D0 down) w gx (midT T0 (fun n=>T0 n != false) (c+1)) (wr.setCell ⟨gx,3+c,none⟩ (.bool (T0 c != false)))):=by
       have:=HD.out.bit c (T0 c != false)
       have e:(fun n=>if n=c then (T0 c != false) else midT T0 (fun n=>T0 n != false) c n)=midT T0 (fun n=>T0 n != false) (c+1):=by
        funext n;unfold midT;by_cases e:n=c
        ·subst e;simp
        ·by_cases h2:n<c
         ·have h3:n<c+1:=by omega
          simp [e,h2,h3]
         ·have h3:¬n<c+1:=by omega
          simp [e,h2,h3]
       rw [e] at this;exact this
      generalize T0 c=tc at *;cases tc
      all_goals
       go_wp2;go_roundg (256-(c+1))
       case measure=>omega
       case rel=>exact⟨c+1,by omega,rfl,by go_num,D2.out⟩
     ·have d1:decide ((c:Int)<256)=false:=decide_eq_false (by omega)
      have e:c=256:=by omega
      subst e
      have FIN:Hid (ndC1 ⟨1,0,0,midT T0 (fun n=>T0 n != false) 256⟩=ndC1 ⟨1,0,0,T0⟩):=by
       show _=_;unfold ndC1;simp only;rw [midT_end];congr 4;funext n;simp
      have HX:=hide HD.out.there;rw [FIN.out] at HX;clear FIN;generalize hU:T0=U at *
      go_wp2_with (refine wpList_load_mid rfl 161 (.tmp 3) rfl gx 0 rfl (ndC1 ⟨1,0,0,U⟩) _ HX.out Tryz.underlying161 rfl (by rw [ndC1_length];exact node_size) ?_)
      refine (node_any B g (jj+1) s ns vn (.slice al nl cl) modes (Pure.upd nl D0 down) ⟨1,0,0,U⟩ wr HD.out.dr hl).mono ?_
      rintro e w9 ⟨rfl,hk9,vn9,hd9⟩;have K9:=hide (HD.out.dk.trans hk9);have D9:=hide hd9;clear hk9 hd9 HX;go_wp2;go_ret;exact⟨rfl,K9.out,vn9,by rw [←HJK.out];first | exact D9.out | (rw [if_pos rfl];exact D9.out) | (rw [if_neg (by decide)];exact D9.out)⟩
namespace Pure
def Nt.sz:Nt→Nat
 | .pcR a _=>a.size
 | .brR a _=>a.size
 | .paR a _=>a.size
 | _=>0
def Nt.un:Nt→Nat
 | .pcR _ _=>0
 | .brR _ _=>0
 | .paR _ _=>0
 | _=>1
theorem P.size {s:ByteArray} {t:Nt} {i j:Nat} {a:Re} {D:Bool} (h:P s t i j a D):a.size+2*i+t.un≤t.sz+2*j:=by
 induction h with
 | any=>simp [Re.size,Nt.sz,Nt.un];omega
 | chr=>simp [Re.size,Nt.sz,Nt.un];omega
 | esc=>simp [Re.size,Nt.sz,Nt.un];omega
 | cls _ _ h=>have:=h.lt;simp [Re.size,Nt.sz,Nt.un];omega
 | ncls _ _ h=>have:=h.lt;simp [Re.size,Nt.sz,Nt.un];omega
 | grp _ _ _ ih=>simp only [Nt.sz,Nt.un] at ih ⊢;omega
 | pcR0=>simp [Nt.sz,Nt.un]
 | star _ _ ih=>simp only [Nt.sz,Nt.un,Re.size] at ih ⊢;omega
 | plus _ _ ih=>simp only [Nt.sz,Nt.un,Re.size] at ih ⊢;omega
 | opt _ _ ih=>simp only [Nt.sz,Nt.un,Re.size] at ih ⊢;omega
 | pc _ _ ih1 ih2=>simp only [Nt.sz,Nt.un] at ih1 ih2 ⊢;omega
 | brR0=>simp [Nt.sz,Nt.un]
 | brR _ _ _ ih1 ih2=>simp only [Nt.sz,Nt.un,Re.size] at ih1 ih2 ⊢;omega
 | br _ _ ih1 ih2=>simp only [Nt.sz,Nt.un] at ih1 ih2 ⊢;omega
 | paR0=>simp [Nt.sz,Nt.un]
 | paR _ _ _ ih1 ih2=>simp only [Nt.sz,Nt.un,Re.size] at ih1 ih2 ⊢;omega
 | pa _ _ ih1 ih2=>simp only [Nt.sz,Nt.un] at ih1 ih2 ⊢;omega
def Foll (s:ByteArray):Nt→Nat→Prop
 | .pc,j=>j<s.size
 | .br,j=>pkb s j=32∨pkb s j=124∨pkb s j=41
 | .pa,j=>pkb s j=32∨pkb s j=41
 | _,_=>True
end Pure
def DOK (f:Nat) (nt:Pure.Nt) (s:ByteArray) (i:Nat):Prop:=
 ∀(j:Nat) (re:Pure.Re) (D:Bool),Pure.P s nt i j re D→Pure.Foll s nt j→∀(B g:Nat) (ns:List Pure.Nd) (vn:Value) (al:Option Addr) (nl cl:Nat) (modes down:Int) (w:World),Dr B g s i ns vn (.slice al nl cl) modes down w→ns.length≤2*i→
  Calls Tryz.prog f #[.pointer (some ⟨g,0,none⟩)] w (RetNd B g s j (ns.length+re.size-1) (ns++Pure.nodes re ns.length) (.slice al nl cl) modes (Pure.upd nl D down) w)
theorem DC.fin {B g k:Nat} {s:ByteArray} {ns:List Pure.Nd} {vn vl:Value} {modes down:Int} {w:World} {gx:Nat} {T U:Nat→Bool} {W:World} (h:DC B g s k ns vn vl modes down w gx T W) (e:bitsL T=bitsL U):W.rangeAt gx 0 (ndC1 ⟨1,0,0,U⟩):=by
 have:=h.there
 unfold ndC1 at this ⊢
 simp only at this ⊢
 rw [e] at this
 exact this
theorem bits_ext {T U:Nat→Bool} (h:∀n,n<256→T n=U n):bitsL T=bitsL U:=by
 apply List.ext_getElem?
 intro i
 by_cases hi:i<256
 ·rw [bitsL_get _ hi,bitsL_get _ hi,h i hi]
 ·rw [List.getElem?_eq_none (by rw [bitsL_length];omega),List.getElem?_eq_none (by rw [bitsL_length];omega)]
theorem done_any (s:ByteArray) (i:Nat) (PA:i<s.size→DOK 95 .pa s (i+1)) (hs:s.size≤400):DOK 152 .atom s i:=by
 intro j re D hP _ B g ns vn al nl cl modes down w h hl
 have BL:=h.lt
 have zv:=node_zeroV
 have SB:=hide (node_built1 1)
 have sz:=hP.size
 simp only [Pure.Nt.sz,Pure.Nt.un] at sz
 have i1:i<s.size:=by
  cases hP with
  | any h1=>exact Pure.pkb_lt (s:=s) (i:=i) (by rw [h1];decide)
  | chr h1 _ _ _ _=>exact Pure.pkb_lt (s:=s) (i:=i) (fun e=>h1 (by rw [e];decide))
  | esc h1 _=>exact Pure.pkb_lt (s:=s) (i:=i) (by rw [h1];decide)
  | cls h1 _ _=>exact Pure.pkb_lt (s:=s) (i:=i) (by rw [h1];decide)
  | ncls h1 _ _=>exact Pure.pkb_lt (s:=s) (i:=i) (by rw [h1];decide)
  | grp h1 _ _=>exact Pure.pkb_lt (s:=s) (i:=i) (by rw [h1];decide)
 have x0:=fun w=>idx_str s (i:Int) i rfl (by omega) w
 have j0:=nz_ i
 have j1:(i:Int)<(s.size:Int):=by omega
 have wi:=wr_ (i:Int) (by omega) (by omega)
 have pb:=Pure.pkb_bt i1
 rw [←pb] at x0
 have dn0:=below_drewN (Below.refl w.heap.size w)
 have c4:=bc_ 4 h.rb rfl
 have c5:=bc_ 5 h.rb rfl
 have H0:=hide h
 have PA:=hide PA
 clear h
 cases hP with
 | any h46=>
  rw [h46] at x0;clear pb sz;go_enter Tryz.func152,Tryz.ntmps152
  go_wp2_with fail
  go_quiet (fail);have dn:=dn0 nq;have H1:=hide (H0.out.below dn);have K1:Hid (Dk B w (w.drewN nq)):=.below BL dn;clear dn dn0 c4 c5 H0 x0;generalize w.drewN nq=W1 at *;have c5:=bc_ 5 H1.out.rb rfl;have f5:=blk_frozen H1.out.rb 5;have hg2:=Lib.grownBy_setCell W1 g 5 (.int .i64 ((i:Int)+1));have H2:Hid (Dr B g s (i+1) ns vn (.slice al nl cl) modes down (W1.setCell ⟨g,5,none⟩ (.int .i64 ((i:Int)+1)))):=H1.out.moved hg2 (H1.out.rb.at (i+1));have K2:=hide (K1.out.trans (H1.out.dk hg2));clear hg2;have C3:=hide (DC.new H2.out K2.out BL);go_upto_region 12 with (fail);clear c5 f5 H1 K1 H2 K2;generalize W1.setCell ⟨g,5,none⟩ (.int .i64 ((i:Int)+1))=W2 at *
  go_wp2_with (first | (refine wpList_build1 rfl 161 0 (.const (.int .i64 1)) (.int .i64 1) rfl rfl _ SB.out ?_) | (refine wpList_store_mid rfl 161 (.tmp 4) (.tmp 56) rfl W2.heap.size 0 (ndC1 ⟨1,0,0,Pure.noneB⟩).toArray rfl rfl (ndZ_there _) (ndC1_sz _) (all_oneCell_toArray (ndC1_ones _)) ?_))
  clear zv SB;generalize (W2.alloc (.cells ndZ.toArray 161)).setCells W2.heap.size 0 (ndC1 ⟨1,0,0,Pure.noneB⟩)=W3 at *;generalize W2.heap.size=gx at *
  go_loopg [5] 256 (fun gk kv wx=>∃c:Nat,c≤256∧gk=256-c∧kv=.int .i64 c∧DC B g s (i+1) ns vn (.slice al nl cl) modes down w gx (midT Pure.noneB (Pure.notB (Pure.onlyB 10)) c) wx)
  case atStart=>exact⟨0,Nat.zero_le _,rfl,rfl,by rw [midT_zero];exact C3.out⟩
  case round=>
   clear C3;obtain⟨c,cl2,rfl,rfl,hD⟩:=hrel;have HD:=hide hD;clear hD;by_cases hlt:c<256
   ·have d1:decide ((c:Int)<256)=true:=decide_eq_true (by omega)
    have ic0:=nz_ c;have ic1:(c:Int)<256:=by omega
    have wc:=wr_ (c:Int) (by omega) (by omega)
    have xc:=blk_cell (j:=3+c) HD.out.x (by
     rw [show 3+c=c+1+1+1 by omega];show (bitsL _)[c]?=_
     exact bitsL_get _ hlt)
    have fc:=blk_frozen HD.out.x (3+c);have e10:((c:Int) != 10)=Pure.notB (Pure.onlyB 10) c:=rfl
    have D2:Hid (DC B g s (i+1) ns vn (.slice al nl cl) modes down w gx (midT Pure.noneB (Pure.notB (Pure.onlyB 10)) (c+1)) (wr.setCell ⟨gx,3+c,none⟩ (.bool (Pure.notB (Pure.onlyB 10) c)))):=by
     have:=HD.out.bit c (Pure.notB (Pure.onlyB 10) c)
     have e:(fun n=>if n=c then Pure.notB (Pure.onlyB 10) c else midT Pure.noneB (Pure.notB (Pure.onlyB 10)) c n)=midT Pure.noneB (Pure.notB (Pure.onlyB 10)) (c+1):=by
      funext n;unfold midT;by_cases e:n=c
      ·subst e;simp
      ·by_cases h2:n<c
       ·have h3:n<c+1:=by omega
        simp [e,h2,h3]
       ·have h3:¬n<c+1:=by omega
        simp [e,h2,h3]
     rw [e] at this;exact this
    generalize midT Pure.noneB (Pure.notB (Pure.onlyB 10)) c c=oldb at xc;generalize Pure.notB (Pure.onlyB 10) c=nb at *;go_wp2;go_roundg (256-(c+1))
    case measure=>omega
    case rel=>exact⟨c+1,by omega,rfl,by go_num,D2.out⟩
   ·have d1:decide ((c:Int)<256)=false:=decide_eq_false (by omega)
    have e:c=256:=by omega
    subst e;have HX:Hid (wr.rangeAt gx 0 (ndC1 ⟨1,0,0,Pure.notB (Pure.onlyB 10)⟩)):=HD.out.fin (midT_end _ _)
    go_wp2_with (refine wpList_load_mid rfl 161 (.tmp 4) rfl gx 0 rfl (ndC1 ⟨1,0,0,Pure.notB (Pure.onlyB 10)⟩) _ HX.out Tryz.underlying161 rfl (by rw [ndC1_length];exact node_size) ?_)
    refine (node_any B g (i+1) s ns vn (.slice al nl cl) modes down ⟨1,0,0,Pure.notB (Pure.onlyB 10)⟩ wr HD.out.dr (by omega)).mono ?_
    rintro e w5 ⟨rfl,hk5,vn5,hd5⟩;have K5:=hide (HD.out.dk.trans hk5);have D5:=hide hd5;clear hk5 hd5 HX HD;go_wp2;go_ret;exact⟨rfl,K5.out,vn5,by rw [Pure.upd_false];exact D5.out⟩
 | chr hb h92 h40 h91 h46=>
  have e1:(Pure.pkb s i == 40)=false:=by simpa using h40
  have e2:(Pure.pkb s i == 91)=false:=by simpa using h91
  have e3:(Pure.pkb s i == 46)=false:=by simpa using h46
  have pbd:=bt_bd s i;rw [←pb] at pbd;obtain⟨m,hm⟩:∃m:Nat,Pure.pkb s i=(m:Int):=⟨(Pure.pkb s i).toNat,by omega⟩;have SP:=hide (fun w1 (h1:Db w1 g s i vn (.slice al nl cl) modes down)=>signed_pl g i s vn (.slice al nl cl) modes down w1 h1 (by omega) i1 h92);have mb:m<256:=by omega
  rw [hm] at x0 e1 e2 e3 SP;rw [hm];clear pb sz hb h92 h40 h91 h46 pbd hm;go_enter Tryz.func152,Tryz.ntmps152
  go_wp2_with fail
  go_quiet (fail);have dn:=dn0 nq;have H1:=hide (H0.out.below dn);have K1:Hid (Dk B w (w.drewN nq)):=.below BL dn;clear dn dn0 c4 c5 H0 x0;generalize w.drewN nq=W1 at *;have C1:=hide (DC.new H1.out K1.out BL);go_upto_region 19 with (first | (refine wpList_build1 rfl 161 0 (.const (.int .i64 1)) (.int .i64 1) rfl rfl _ SB.out ?_) | (refine wpList_store_mid rfl 161 (.tmp 6) (.tmp 69) rfl W1.heap.size 0 (ndC1 ⟨1,0,0,Pure.noneB⟩).toArray rfl rfl (ndZ_there _) (ndC1_sz _) (all_oneCell_toArray (ndC1_ones _)) ?_));clear H1 K1 zv SB;generalize (W1.alloc (.cells ndZ.toArray 161)).setCells W1.heap.size 0 (ndC1 ⟨1,0,0,Pure.noneB⟩)=W2 at *;generalize W1.heap.size=gx at *;have SG:=hide (SP.out W2 C1.out.dr.rb)
  go_wp2_with fail
  refine SG.out.mono ?_
  clear SG;rintro e w3 ⟨rfl,hg3,hr3⟩;have C3:=hide (C1.out.moved hg3 hr3);clear hg3 hr3 C1;have ic0:=nz_ m;have ic1:(m:Int)<256:=by omega
  have xc:=blk_cell (j:=3+m) C3.out.x (by
   rw [show 3+m=m+1+1+1 by omega];show (bitsL _)[m]?=_
   exact bitsL_get _ (by omega))
  have fc:=blk_frozen C3.out.x (3+m);have C4:=hide (C3.out.bit m true);generalize Pure.noneB m=oldb at xc;go_upto_region 21 with (fail);clear xc fc C3;generalize w3.setCell ⟨gx,3+m,none⟩ (.bool true)=W4 at *
  have HX:Hid (W4.rangeAt gx 0 (ndC1 ⟨1,0,0,Pure.onlyB (m:Int)⟩)):=C4.out.fin (bits_ext (fun n _=>by
   unfold Pure.onlyB Pure.noneB;by_cases e:n=m
   ·subst e;simp
   ·have:¬(n:Int)=(m:Int):=by omega
    simp [e,this]))
  go_wp2_with (refine wpList_load_mid rfl 161 (.tmp 6) rfl gx 0 rfl (ndC1 ⟨1,0,0,Pure.onlyB (m:Int)⟩) _ HX.out Tryz.underlying161 rfl (by rw [ndC1_length];exact node_size) ?_)
  refine (node_any B g (i+1) s ns vn (.slice al nl cl) modes down ⟨1,0,0,Pure.onlyB (m:Int)⟩ W4 C4.out.dr (by omega)).mono ?_
  rintro e w5 ⟨rfl,hk5,vn5,hd5⟩;have K5:=hide (C4.out.dk.trans hk5);have D5:=hide hd5;clear hk5 hd5 HX C4;go_wp2;go_ret;exact⟨rfl,K5.out,vn5,by rw [Pure.upd_false];exact D5.out⟩
 | @esc _ v h92 hv=>
  have vb:=(Pure.Sg.esc h92 hv).bd;obtain⟨m,hm⟩:∃m:Nat,v=(m:Int):=⟨v.toNat,by omega⟩;subst hm;rw [h92] at x0;have SP:=hide (fun w1 (h1:Db w1 g s i vn (.slice al nl cl) modes down)=>signed_any g i (i+2) s vn (.slice al nl cl) modes down (m:Int) w1 h1 (by omega) (.esc h92 hv));clear pb sz h92 hv;go_enter Tryz.func152,Tryz.ntmps152
  go_wp2_with fail
  go_quiet (fail);have dn:=dn0 nq;have H1:=hide (H0.out.below dn);have K1:Hid (Dk B w (w.drewN nq)):=.below BL dn;clear dn dn0 c4 c5 H0 x0;generalize w.drewN nq=W1 at *;have C1:=hide (DC.new H1.out K1.out BL);go_upto_region 19 with (first | (refine wpList_build1 rfl 161 0 (.const (.int .i64 1)) (.int .i64 1) rfl rfl _ SB.out ?_) | (refine wpList_store_mid rfl 161 (.tmp 6) (.tmp 69) rfl W1.heap.size 0 (ndC1 ⟨1,0,0,Pure.noneB⟩).toArray rfl rfl (ndZ_there _) (ndC1_sz _) (all_oneCell_toArray (ndC1_ones _)) ?_));clear H1 K1 zv SB;generalize (W1.alloc (.cells ndZ.toArray 161)).setCells W1.heap.size 0 (ndC1 ⟨1,0,0,Pure.noneB⟩)=W2 at *;generalize W1.heap.size=gx at *;have SG:=hide (SP.out W2 C1.out.dr.rb)
  go_wp2_with fail
  refine SG.out.mono ?_
  clear SG;rintro e w3 ⟨rfl,hg3,hr3⟩;have C3:=hide (C1.out.moved hg3 hr3);clear hg3 hr3 C1;have ic0:=nz_ m;have ic1:(m:Int)<256:=by omega
  have xc:=blk_cell (j:=3+m) C3.out.x (by
   rw [show 3+m=m+1+1+1 by omega];show (bitsL _)[m]?=_
   exact bitsL_get _ (by omega))
  have fc:=blk_frozen C3.out.x (3+m);have C4:=hide (C3.out.bit m true);generalize Pure.noneB m=oldb at xc;go_upto_region 21 with (fail);clear xc fc C3;generalize w3.setCell ⟨gx,3+m,none⟩ (.bool true)=W4 at *
  have HX:Hid (W4.rangeAt gx 0 (ndC1 ⟨1,0,0,Pure.onlyB (m:Int)⟩)):=C4.out.fin (bits_ext (fun n _=>by
   unfold Pure.onlyB Pure.noneB;by_cases e:n=m
   ·subst e;simp
   ·have:¬(n:Int)=(m:Int):=by omega
    simp [e,this]))
  go_wp2_with (refine wpList_load_mid rfl 161 (.tmp 6) rfl gx 0 rfl (ndC1 ⟨1,0,0,Pure.onlyB (m:Int)⟩) _ HX.out Tryz.underlying161 rfl (by rw [ndC1_length];exact node_size) ?_)
  refine (node_any B g (i+2) s ns vn (.slice al nl cl) modes down ⟨1,0,0,Pure.onlyB (m:Int)⟩ W4 C4.out.dr (by omega)).mono ?_
  rintro e w5 ⟨rfl,hk5,vn5,hd5⟩;have K5:=hide (C4.out.dk.trans hk5);have D5:=hide hd5;clear hk5 hd5 HX C4;go_wp2;go_ret;exact⟨rfl,K5.out,vn5,by rw [Pure.upd_false];exact D5.out⟩
 | @cls _ _ T _ h91 h94 hc=>
  rw [h91] at x0;clear pb sz;go_enter Tryz.func152,Tryz.ntmps152
  go_wp2_with fail
  go_quiet (fail);have dn:=dn0 nq;have H1:=hide (H0.out.below dn);have K1:Hid (Dk B w (w.drewN nq)):=.below BL dn;clear dn dn0 c4 c5 H0 x0;generalize w.drewN nq=W1 at *;have c5:=bc_ 5 H1.out.rb rfl;have f5:=blk_frozen H1.out.rb 5;have hg2:=Lib.grownBy_setCell W1 g 5 (.int .i64 ((i:Int)+1));have H2:Hid (Dr B g s (i+1) ns vn (.slice al nl cl) modes down (W1.setCell ⟨g,5,none⟩ (.int .i64 ((i:Int)+1)))):=H1.out.moved hg2 (H1.out.rb.at (i+1));have K2:=hide (K1.out.trans (H1.out.dk hg2));clear hg2
  go_wp2_with fail
  clear c5 f5 H1 K1 zv SB;generalize W1.setCell ⟨g,5,none⟩ (.int .i64 ((i:Int)+1))=W2 at *;refine (dclass_any B g (i+1) j s ns vn al nl cl modes down T D W2 false (by rw [decide_eq_false h94]) H2.out hs (by omega) (by rw [if_neg h94];exact hc)).mono ?_
  rintro e w5 ⟨rfl,hk5,vn5,hd5⟩;have K5:=hide (K2.out.trans hk5);have D5:=hide hd5;clear hk5 hd5 H2 K2;go_wp2;go_ret;exact⟨rfl,K5.out,vn5,D5.out⟩
 | @ncls _ _ T _ h91 h94 hc=>
  rw [h91] at x0;clear pb sz;go_enter Tryz.func152,Tryz.ntmps152
  go_wp2_with fail
  go_quiet (fail);have dn:=dn0 nq;have H1:=hide (H0.out.below dn);have K1:Hid (Dk B w (w.drewN nq)):=.below BL dn;clear dn dn0 c4 c5 H0 x0;generalize w.drewN nq=W1 at *;have c5:=bc_ 5 H1.out.rb rfl;have f5:=blk_frozen H1.out.rb 5;have hg2:=Lib.grownBy_setCell W1 g 5 (.int .i64 ((i:Int)+1));have H2:Hid (Dr B g s (i+1) ns vn (.slice al nl cl) modes down (W1.setCell ⟨g,5,none⟩ (.int .i64 ((i:Int)+1)))):=H1.out.moved hg2 (H1.out.rb.at (i+1));have K2:=hide (K1.out.trans (H1.out.dk hg2));clear hg2
  go_wp2_with fail
  clear c5 f5 H1 K1 zv SB;generalize W1.setCell ⟨g,5,none⟩ (.int .i64 ((i:Int)+1))=W2 at *;refine (dclass_any B g (i+1) j s ns vn al nl cl modes down T D W2 true (by rw [decide_eq_true h94]) H2.out hs (by omega) (by rw [if_pos h94];exact hc)).mono ?_
  rintro e w5 ⟨rfl,hk5,vn5,hd5⟩;have K5:=hide (K2.out.trans hk5);have D5:=hide hd5;clear hk5 hd5 H2 K2;go_wp2;go_ret;exact⟨rfl,K5.out,vn5,D5.out⟩
 | @grp _ j2 _ _ h40 hp h41=>
  rw [h40] at x0;have j2s:j2<s.size:=Pure.pkb_lt (s:=s) (i:=j2) (by rw [h41];decide);have CALL:=hide (fun w1 (h1:Dr B g s (i+1) ns vn (.slice al nl cl) modes down w1)=>PA.out i1 j2 re D hp (.inr h41) B g ns vn al nl cl modes down w1 h1 (by omega));have wj:=wr_ (j2:Int) (by omega) (by omega);clear pb sz h40 hp h41;go_enter Tryz.func152,Tryz.ntmps152
  go_wp2_with fail
  go_quiet (fail);have dn:=dn0 nq;have H1:=hide (H0.out.below dn);have K1:Hid (Dk B w (w.drewN nq)):=.below BL dn;clear dn dn0 c4 c5 H0 x0;generalize w.drewN nq=W1 at *;have c5:=bc_ 5 H1.out.rb rfl;have f5:=blk_frozen H1.out.rb 5;have hg2:=Lib.grownBy_setCell W1 g 5 (.int .i64 ((i:Int)+1));have H2:Hid (Dr B g s (i+1) ns vn (.slice al nl cl) modes down (W1.setCell ⟨g,5,none⟩ (.int .i64 ((i:Int)+1)))):=H1.out.moved hg2 (H1.out.rb.at (i+1));have K2:=hide (K1.out.trans (H1.out.dk hg2));clear hg2
  go_wp2_with fail
  clear c5 f5 H1 K1 zv SB;generalize W1.setCell ⟨g,5,none⟩ (.int .i64 ((i:Int)+1))=W2 at *;refine (CALL.out W2 H2.out).mono ?_
  rintro e w5 ⟨rfl,hk5,vn5,hd5⟩;have K5:=hide (K2.out.trans hk5);have D5:=hide hd5;clear hk5 hd5 H2 K2 CALL;have c5:=bc_ 5 D5.out.rb rfl;have f5:=blk_frozen D5.out.rb 5;have hg6:=Lib.grownBy_setCell w5 g 5 (.int .i64 ((j2:Int)+1));have D6:Hid (Dr B g s (j2+1) (ns++Pure.nodes re ns.length) vn5 (.slice al nl cl) modes (Pure.upd nl D down) (w5.setCell ⟨g,5,none⟩ (.int .i64 ((j2:Int)+1)))):=D5.out.moved hg6 (D5.out.rb.at (j2+1));have K6:=hide (K5.out.trans (D5.out.dk hg6));clear hg6;generalize hrn:((ns.length+re.size-1:Nat):Int)=rn at *;have HRN:=hide hrn;clear hrn;go_wp2;go_ret;exact⟨by rw [HRN.out];rfl,K6.out,vn5,D6.out⟩
end Go.Proofs.YtmccnmgaoppogaaGreat
