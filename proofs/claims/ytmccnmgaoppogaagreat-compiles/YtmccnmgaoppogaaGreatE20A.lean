/-
 The walks: modes and actions. (rules)
 The walks: lines. (rules)
-/
import Derived.Test.YtmccnmgaoppogaaGreatEF
namespace Go.Proofs.YtmccnmgaoppogaaGreat
set_option maxRecDepth 100000
set_option maxHeartbeats 8000000
open Go.RowKit
theorem grown_fre {w W W':World} {g g':Nat} (h:w.grownBy W (some g)) (h2:W.grownBy W' (some g')) (hl:w.heap.size≤g'):w.grownBy W' (some g):=
 ⟨h2.os.trans h.os,h2.tape.trans h.tape,h2.output.trans h.output,Nat.le_trans h.size h2.size,fun k hk hne=>(h2.block k (Nat.lt_of_lt_of_le hk h.size) (fun e=>by cases e;omega)).trans (h.block k hk hne)⟩
theorem mode_any (g i:Nat) (s:ByteArray) (vp:Value) (d:Bool) (w:World) (h:Rb w g s i vp d) (hi:i≤1000000) :
  Calls Tryz.prog 139 #[.pointer (some ⟨g,0,none⟩)] w (fun e w'=>(Pure.Letter (Pure.pkb s i)∧RetRb (.tuple #[.int .i64 (Pure.pkb s i-97),.bool true]) g s (i+1) vp d w e w')∨(¬Pure.Letter (Pure.pkb s i)∧RetRb (.tuple #[.int .i64 0,.bool false]) g s i vp d w e w')):=by
 have PK:=hide (peek_any g i s vp d w h)
 have H0:=hide h
 have bd:=Pure.pkb_bd s i
 clear h
 generalize Pure.pkb s i=b at *
 have ws:IntKind.i64.wrap (b-97)=b-97:=wrap_in _ (by omega) (by omega)
 by_cases hl:Pure.Letter b
 ·have FIN:Hid (∀e w',RetRb (.tuple #[.int .i64 (b-97),.bool true]) g s (i+1) vp d w e w'→(Pure.Letter b∧RetRb (.tuple #[.int .i64 (b-97),.bool true]) g s (i+1) vp d w e w')∨(¬Pure.Letter b∧RetRb (.tuple #[.int .i64 0,.bool false]) g s i vp d w e w')):=fun e w' k=>.inl ⟨hl,k⟩
  unfold Pure.Letter at hl;have d1:decide (b-97<0)=false:=decide_eq_false (by omega);have d2:decide (4≤b-97)=false:=decide_eq_false (by omega);clear hl;go_enter Tryz.func139,Tryz.ntmps139
  go_wp2_with fail
  refine PK.out.mono ?_
  clear PK;rintro e w1 ⟨rfl,hb1⟩;have H1:=hide (H0.out.below hb1);have G1:=hide (grown_bel (some g) hb1);clear hb1 H0;have c1:=bc_ 1 H1.out rfl;have f1:=blk_frozen H1.out 1;have wi:=wr_ (i:Int) (by omega) (by omega);have N1:=hide (H1.out.at (i+1));go_wp2
  go_ret2
  exact FIN.out _ _ ⟨rfl,G1.out.trans (Lib.grownBy_setCell _ g 1 _),N1.out⟩
 ·have FIN:Hid (∀e w',RetRb (.tuple #[.int .i64 0,.bool false]) g s i vp d w e w'→(Pure.Letter b∧RetRb (.tuple #[.int .i64 (b-97),.bool true]) g s (i+1) vp d w e w')∨(¬Pure.Letter b∧RetRb (.tuple #[.int .i64 0,.bool false]) g s i vp d w e w')):=fun e w' k=>.inr ⟨hl,k⟩
  unfold Pure.Letter at hl
  cases d1:decide (b-97<0) with
  | true=>
   clear hl;go_enter Tryz.func139,Tryz.ntmps139
   go_wp2_with fail
   refine PK.out.mono ?_
   clear PK;rintro e w1 ⟨rfl,hb1⟩;have H1:=hide (H0.out.below hb1);have G1:=hide (grown_bel (some g) hb1);clear hb1 H0;go_wp2
   go_ret2
   exact FIN.out _ _ ⟨rfl,G1.out,H1.out⟩
  | false=>
   have d1':=of_decide_eq_false d1;have d2:decide (4≤b-97)=true:=decide_eq_true (by omega);clear hl d1';go_enter Tryz.func139,Tryz.ntmps139
   go_wp2_with fail
   refine PK.out.mono ?_
   clear PK;rintro e w1 ⟨rfl,hb1⟩;have H1:=hide (H0.out.below hb1);have G1:=hide (grown_bel (some g) hb1);clear hb1 H0;go_wp2
   go_ret2
   exact FIN.out _ _ ⟨rfl,G1.out,H1.out⟩
structure AcS (g:Nat) (s:ByteArray) (j:Nat) (vp:Value) (d:Bool) (w:World) (gR gV:Nat) (e c m:Int) (W:World):Prop where
 rb:Rb W g s j vp d
 gr:w.grownBy W (some g)
 r:Blk W gR 59 [.int .i64 0,.int .i64 0,.int .i64 0]
 v:Blk W gV 59 [.int .i64 e,.int .i64 c,.int .i64 m]
 ap:gR≠gV∧w.heap.size≤gR∧w.heap.size≤gV
section
variable {g:Nat} {s:ByteArray} {j j':Nat} {vp:Value} {d d':Bool} {w:World} {gR gV:Nat} {e c m:Int} {W W':World}
theorem AcS.below (h:AcS g s j vp d w gR gV e c m W) (hb:Below W.heap.size W W'):AcS g s j vp d w gR gV e c m W':=
 ⟨h.rb.below hb,Lib.grownBy_below h.gr hb,blk_below h.r hb (blk_lt h.r),blk_below h.v hb (blk_lt h.v),h.ap⟩
theorem AcS.moved (h:AcS g s j vp d w gR gV e c m W) (hg:W.grownBy W' (some g)) (hr:Rb W' g s j' vp d'):AcS g s j' vp d' w gR gV e c m W':=
 ⟨hr,h.gr.trans hg,blk_grown h.r hg (fun k=>blk_ne2 h.r h.rb (by decide) (Option.some.inj k)),blk_grown h.v hg (fun k=>blk_ne2 h.v h.rb (by decide) (Option.some.inj k)),h.ap⟩
theorem AcS.set0 (h:AcS g s j vp d w gR gV e c m W) (x:Int):AcS g s j vp d w gR gV x c m (W.setCell ⟨gV,0,none⟩ (.int .i64 x)):=
 ⟨blk_other h.rb (blk_ne2 h.rb h.v (by decide)) _ _,grown_fre h.gr (Lib.grownBy_setCell _ _ _ _) h.ap.2.2,blk_other h.r h.ap.1 _ _,blk_set h.v 0 _,h.ap⟩
theorem AcS.set1 (h:AcS g s j vp d w gR gV e c m W) (x:Int):AcS g s j vp d w gR gV e x m (W.setCell ⟨gV,1,none⟩ (.int .i64 x)):=
 ⟨blk_other h.rb (blk_ne2 h.rb h.v (by decide)) _ _,grown_fre h.gr (Lib.grownBy_setCell _ _ _ _) h.ap.2.2,blk_other h.r h.ap.1 _ _,blk_set h.v 1 _,h.ap⟩
theorem AcS.set2 (h:AcS g s j vp d w gR gV e c m W) (x:Int):AcS g s j vp d w gR gV e c x (W.setCell ⟨gV,2,none⟩ (.int .i64 x)):=
 ⟨blk_other h.rb (blk_ne2 h.rb h.v (by decide)) _ _,grown_fre h.gr (Lib.grownBy_setCell _ _ _ _) h.ap.2.2,blk_other h.r h.ap.1 _ _,blk_set h.v 2 _,h.ap⟩
theorem rule_load {W:World} {g:Nat} {a b c:Value} (h:Blk W g 59 [a,b,c]):(loadVar 59 ⟨g,0,none⟩).run Tryz.prog W=.ok (.agg #[a,b,c]) W:=
 run_loadVar_mid W g 0 59 [a,b,c] _ (blk_range h) Tryz.underlying59 rfl (by kernel_rfl)
theorem AcS.fin (h:AcS g s j vp d w gR gV e c m W):(loadVar 59 ⟨gR,0,none⟩).run Tryz.prog (set3 W gR (.int .i64 e) (.int .i64 c) (.int .i64 m))=.ok (.agg #[.int .i64 e,.int .i64 c,.int .i64 m]) (set3 W gR (.int .i64 e) (.int .i64 c) (.int .i64 m))∧w.grownBy (set3 W gR (.int .i64 e) (.int .i64 c) (.int .i64 m)) (some g)∧Rb (set3 W gR (.int .i64 e) (.int .i64 c) (.int .i64 m)) g s j vp d:=by
 have g5:=three_set W gR (.int .i64 e) (.int .i64 c) (.int .i64 m)
 exact⟨rule_load (three_blk h.r _ _ _),grown_fre h.gr g5 h.ap.2.1,blk_grown h.rb g5 (fun k=>blk_ne2 h.rb h.r (by decide) (Option.some.inj k))⟩
theorem AcS.at1 (h:AcS g s j vp d w gR gV e c m W):AcS g s (j+1) vp d w gR gV e c m (W.setCell ⟨g,1,none⟩ (.int .i64 ((j:Int)+1))):=
 h.moved (Lib.grownBy_setCell _ _ _ _) (h.rb.at (j+1))
end
def RetAc (g:Nat) (s:ByteArray) (i:Nat) (vp:Value) (d:Bool) (w:World) (e:Ending) (w':World):Prop:=
 (∃k em c m,Pure.Act s i k em c m∧RetRb (.tuple #[.agg #[.int .i64 em,.int .i64 c,.int .i64 m],.bool true]) g s k vp d w e w')∨(∃k em c m,Pure.ActF s i k∧RetRb (.tuple #[.agg #[.int .i64 em,.int .i64 c,.int .i64 m],.bool false]) g s k vp d w e w')
namespace Pure
theorem EmitB.ne {b e:Int} (h:EmitB b e):b≠-1:=by unfold EmitB at h;omega
theorem Act.le {s:ByteArray} {i k:Nat} {e c m:Int} (h:Act s i k e c m):k≤s.size∧i<k:=by
 cases h with
 | plain h1 _ _ _=>exact⟨pkb_lt h1.ne,by omega⟩
 | pop _ h2=>exact⟨pkb_lt (s:=s) (i:=i+1) (by rw [h2];decide),by omega⟩
 | «to» _ _ h3=>exact⟨pkb_lt (s:=s) (i:=i+2) (by unfold Letter at h3;omega),by omega⟩
 | push _ _ h3=>exact⟨pkb_lt (s:=s) (i:=i+2) (by unfold Letter at h3;omega),by omega⟩
end Pure
theorem action_any (g i:Nat) (s:ByteArray) (vp:Value) (d:Bool) (w:World) (h:Rb w g s i vp d) (hi:i≤1000) :
  Calls Tryz.prog 141 #[.pointer (some ⟨g,0,none⟩)] w (RetAc g s i vp d w):=by
 have gl:=h.lt
 have A0:Hid (AcS g s i vp d w w.heap.size (w.heap.size+1) 0 0 0 ((w.alloc (.cells #[.int .i64 0,.int .i64 0,.int .i64 0] 59)).alloc (.cells #[.int .i64 0,.int .i64 0,.int .i64 0] 59))):=by
  have hb:=((Below.refl w.heap.size w).alloc lr_ (.cells #[.int .i64 0,.int .i64 0,.int .i64 0] 59)).alloc (by simp) (.cells #[.int .i64 0,.int .i64 0,.int .i64 0] 59);have tb:=two_blocksP w 59 [.int .i64 0,.int .i64 0,.int .i64 0] [.int .i64 0,.int .i64 0,.int .i64 0];exact⟨h.below hb,grown_bel _ hb,tb.1,tb.2,by omega,lr_,by omega⟩
 clear h
 go_enter Tryz.func141,Tryz.ntmps141
 go_wp2_with fail
 generalize (w.alloc (.cells #[.int .i64 0,.int .i64 0,.int .i64 0] 59)).alloc (.cells #[.int .i64 0,.int .i64 0,.int .i64 0] 59)=W0 at *
 generalize w.heap.size=gR at *
 generalize gR+1=gV at *
 refine (peek_any g i s vp d W0 A0.out.rb).mono ?_
 rintro e w1 ⟨rfl,hb1⟩
 have A1:=hide (A0.out.below hb1)
 clear hb1 A0
 have wi:=wr_ (i:Int) (by omega) (by omega)
 have wi2:IntKind.i64.wrap ((i:Int)+1+1)=(i:Int)+1+1:=wrap_in _ (by omega) (by omega)
 rcases Classical.em (Pure.pkb s i=101) with h101 | h101
 ·have HE:Hid (Pure.EmitB (Pure.pkb s i) 1):=.inl ⟨h101,rfl⟩
  rw [h101];clear h101;have v0:=bc_ 0 A1.out.v rfl;have vf0:=blk_frozen A1.out.v 0;have A1':=hide (A1.out.set0 1);go_upto_region 7 with (fail);clear v0 vf0 A1;generalize w1.setCell ⟨gV,0,none⟩ (.int .i64 1)=W1 at *;have c1:=bc_ 1 A1'.out.rb rfl;have f1:=blk_frozen A1'.out.rb 1;have A2:=hide A1'.out.at1
  go_wp2_with fail
  clear c1 f1 A1';generalize W1.setCell ⟨g,1,none⟩ (.int .i64 ((i:Int)+1))=W2 at *;have g1:=blk_lt A2.out.rb;rcases Classical.em (Pure.pkb s (i+1)=60) with h60 | h60
  ·have FIN:Hid (∀e w',RetRb (.tuple #[.agg #[.int .i64 1,.int .i64 3,.int .i64 0],.bool true]) g s (i+2) vp d w e w'→RetAc g s i vp d w e w'):=fun e w' k=>.inl ⟨i+2,_,_,_,.pop HE.out h60,k⟩
   refine (peek_any g (i+1) s vp d _ A2.out.rb).mono ?_
   rintro e w3 ⟨rfl,hb3⟩;have A3:=hide (A2.out.below hb3);clear hb3 A2;rw [h60];clear h60;have c1:=bc_ 1 A3.out.rb rfl;have f1:=blk_frozen A3.out.rb 1;have A4:Hid (AcS g s (i+2) vp d w gR gV 1 0 0 (w3.setCell ⟨g,1,none⟩ (.int .i64 ((i:Int)+1+1)))):=A3.out.at1;go_upto_region 12 with (fail);clear c1 f1 A3;generalize w3.setCell ⟨g,1,none⟩ (.int .i64 ((i:Int)+1+1))=W4 at *;have c1:=bc_ 1 A4.out.v rfl;have f1:=blk_frozen A4.out.v 1;have A5:=hide (A4.out.set1 3);go_upto_region 13 with (fail);clear c1 f1 A4;generalize W4.setCell ⟨gV,1,none⟩ (.int .i64 3)=W5 at *;have r0:=bc_ 0 A5.out.r rfl;have r1:=bc_ 1 A5.out.r rfl;have r2:=bc_ 2 A5.out.r rfl;have rf0:=blk_frozen A5.out.r 0;have rf1:=blk_frozen A5.out.r 1;have rf2:=blk_frozen A5.out.r 2;have v0:=bc_ 0 A5.out.v rfl;have v1:=bc_ 1 A5.out.v rfl;have v2:=bc_ 2 A5.out.v rfl;obtain⟨ld,hgF,hrF⟩:=A5.out.fin;have GF:=hide hgF;have RF:=hide hrF;clear hgF hrF A5;go_wp2;exact bodyPost_ret (by simp [results,Tryz.results141,asAddr,Result.andThen,ld]) rfl (FIN.out _ _ ⟨rfl,GF.out,RF.out⟩)
  ·rcases Classical.em (Pure.pkb s (i+1)=62∨Pure.pkb s (i+1)=43) with hgo | hgo
   ·have j2:i+1<s.size:=Pure.pkb_lt (s:=s) (i:=i+1) (by rcases hgo with h | h <;> rw [h] <;> decide)
    have FIN1:Hid (Pure.Letter (Pure.pkb s (i+2))→∀e w' c,(Pure.pkb s (i+1)=62∧c=1)∨(Pure.pkb s (i+1)=43∧c=2)→RetRb (.tuple #[.agg #[.int .i64 1,.int .i64 c,.int .i64 (Pure.pkb s (i+2)-97)],.bool true]) g s (i+3) vp d w e w'→RetAc g s i vp d w e w'):=by
     intro hL e w' c hc k;rcases hc with ⟨h1,rfl⟩ | ⟨h1,rfl⟩
     ·exact .inl ⟨i+3,_,_,_,.to HE.out h1 hL,k⟩
     ·exact .inl ⟨i+3,_,_,_,.push HE.out h1 hL,k⟩
    have FIN2:Hid (¬Pure.Letter (Pure.pkb s (i+2))→∀e w' c,RetRb (.tuple #[.agg #[.int .i64 1,.int .i64 c,.int .i64 0],.bool false]) g s (i+2) vp d w e w'→RetAc g s i vp d w e w'):=fun hL e w' c k=>.inr ⟨i+2,_,_,_,.mode HE.out hgo hL,k⟩
    refine (peek_any g (i+1) s vp d _ A2.out.rb).mono ?_
    rintro e w3 ⟨rfl,hb3⟩;have A3:=hide (A2.out.below hb3);clear hb3 A2;generalize hq:Pure.pkb s (i+1)=q at *;clear hq h60;have v1:=bc_ 1 A3.out.v rfl;have vf1:=blk_frozen A3.out.v 1;rcases hgo with h | h
    ·subst h
     have A4:=hide (A3.out.set1 1);go_upto_region 18 with (fail);clear v1 vf1 A3;generalize w3.setCell ⟨gV,1,none⟩ (.int .i64 1)=W4 at *;have c1:=bc_ 1 A4.out.rb rfl;have f1:=blk_frozen A4.out.rb 1;have A5:Hid (AcS g s (i+2) vp d w gR gV 1 1 0 (W4.setCell ⟨g,1,none⟩ (.int .i64 ((i:Int)+1+1)))):=A4.out.at1
     go_wp2_with fail
     clear c1 f1 A4;generalize W4.setCell ⟨g,1,none⟩ (.int .i64 ((i:Int)+1+1))=W5 at *;refine (mode_any g (i+2) s vp d W5 A5.out.rb (by omega)).mono ?_
     rintro e w6 (⟨hL,rfl,hg6,hr6⟩ | ⟨hL,rfl,hg6,hr6⟩)
     ·have A6:=hide (A5.out.moved hg6 hr6)
      clear hg6 hr6 A5;have FIN:=hide (fun e w'=>FIN1.out hL e w' 1 (by simp));clear FIN1 FIN2 hL;generalize Pure.pkb s (i+2)-97=x at *;have v2:=bc_ 2 A6.out.v rfl;have vf2:=blk_frozen A6.out.v 2;have A7:=hide (A6.out.set2 x);go_upto_region 21 with (fail);clear v2 vf2 A6;generalize w6.setCell ⟨gV,2,none⟩ (.int .i64 x)=W7 at *;have A5:=A7;clear A7;have r0:=bc_ 0 A5.out.r rfl;have r1:=bc_ 1 A5.out.r rfl;have r2:=bc_ 2 A5.out.r rfl;have rf0:=blk_frozen A5.out.r 0;have rf1:=blk_frozen A5.out.r 1;have rf2:=blk_frozen A5.out.r 2;have v0:=bc_ 0 A5.out.v rfl;have v1:=bc_ 1 A5.out.v rfl;have v2:=bc_ 2 A5.out.v rfl;obtain⟨ld,hgF,hrF⟩:=A5.out.fin;have GF:=hide hgF;have RF:=hide hrF;clear hgF hrF A5;go_wp2;exact bodyPost_ret (by simp [results,Tryz.results141,asAddr,Result.andThen,ld]) rfl (FIN.out _ _ ⟨rfl,GF.out,RF.out⟩)
     ·have A6:=hide (A5.out.moved hg6 hr6)
      clear hg6 hr6 A5;have FIN:=hide (fun e w'=>FIN2.out hL e w' 1);clear FIN1 FIN2 hL;have v2:=bc_ 2 A6.out.v rfl;have vf2:=blk_frozen A6.out.v 2;have A7:=hide (A6.out.set2 0);go_upto_region 21 with (fail);clear v2 vf2 A6;generalize w6.setCell ⟨gV,2,none⟩ (.int .i64 0)=W7 at *;have A5:=A7;clear A7;have r0:=bc_ 0 A5.out.r rfl;have r1:=bc_ 1 A5.out.r rfl;have r2:=bc_ 2 A5.out.r rfl;have rf0:=blk_frozen A5.out.r 0;have rf1:=blk_frozen A5.out.r 1;have rf2:=blk_frozen A5.out.r 2;have v0:=bc_ 0 A5.out.v rfl;have v1:=bc_ 1 A5.out.v rfl;have v2:=bc_ 2 A5.out.v rfl;obtain⟨ld,hgF,hrF⟩:=A5.out.fin;have GF:=hide hgF;have RF:=hide hrF;clear hgF hrF A5;go_wp2;exact bodyPost_ret (by simp [results,Tryz.results141,asAddr,Result.andThen,ld]) rfl (FIN.out _ _ ⟨rfl,GF.out,RF.out⟩)
    ·subst h
     have A4:=hide (A3.out.set1 2);go_upto_region 18 with (fail);clear v1 vf1 A3;generalize w3.setCell ⟨gV,1,none⟩ (.int .i64 2)=W4 at *;have c1:=bc_ 1 A4.out.rb rfl;have f1:=blk_frozen A4.out.rb 1;have A5:Hid (AcS g s (i+2) vp d w gR gV 1 2 0 (W4.setCell ⟨g,1,none⟩ (.int .i64 ((i:Int)+1+1)))):=A4.out.at1
     go_wp2_with fail
     clear c1 f1 A4;generalize W4.setCell ⟨g,1,none⟩ (.int .i64 ((i:Int)+1+1))=W5 at *;refine (mode_any g (i+2) s vp d W5 A5.out.rb (by omega)).mono ?_
     rintro e w6 (⟨hL,rfl,hg6,hr6⟩ | ⟨hL,rfl,hg6,hr6⟩)
     ·have A6:=hide (A5.out.moved hg6 hr6)
      clear hg6 hr6 A5;have FIN:=hide (fun e w'=>FIN1.out hL e w' 2 (by simp));clear FIN1 FIN2 hL;generalize Pure.pkb s (i+2)-97=x at *;have v2:=bc_ 2 A6.out.v rfl;have vf2:=blk_frozen A6.out.v 2;have A7:=hide (A6.out.set2 x);go_upto_region 21 with (fail);clear v2 vf2 A6;generalize w6.setCell ⟨gV,2,none⟩ (.int .i64 x)=W7 at *;have A5:=A7;clear A7;have r0:=bc_ 0 A5.out.r rfl;have r1:=bc_ 1 A5.out.r rfl;have r2:=bc_ 2 A5.out.r rfl;have rf0:=blk_frozen A5.out.r 0;have rf1:=blk_frozen A5.out.r 1;have rf2:=blk_frozen A5.out.r 2;have v0:=bc_ 0 A5.out.v rfl;have v1:=bc_ 1 A5.out.v rfl;have v2:=bc_ 2 A5.out.v rfl;obtain⟨ld,hgF,hrF⟩:=A5.out.fin;have GF:=hide hgF;have RF:=hide hrF;clear hgF hrF A5;go_wp2;exact bodyPost_ret (by simp [results,Tryz.results141,asAddr,Result.andThen,ld]) rfl (FIN.out _ _ ⟨rfl,GF.out,RF.out⟩)
     ·have A6:=hide (A5.out.moved hg6 hr6)
      clear hg6 hr6 A5;have FIN:=hide (fun e w'=>FIN2.out hL e w' 2);clear FIN1 FIN2 hL;have v2:=bc_ 2 A6.out.v rfl;have vf2:=blk_frozen A6.out.v 2;have A7:=hide (A6.out.set2 0);go_upto_region 21 with (fail);clear v2 vf2 A6;generalize w6.setCell ⟨gV,2,none⟩ (.int .i64 0)=W7 at *;have A5:=A7;clear A7;have r0:=bc_ 0 A5.out.r rfl;have r1:=bc_ 1 A5.out.r rfl;have r2:=bc_ 2 A5.out.r rfl;have rf0:=blk_frozen A5.out.r 0;have rf1:=blk_frozen A5.out.r 1;have rf2:=blk_frozen A5.out.r 2;have v0:=bc_ 0 A5.out.v rfl;have v1:=bc_ 1 A5.out.v rfl;have v2:=bc_ 2 A5.out.v rfl;obtain⟨ld,hgF,hrF⟩:=A5.out.fin;have GF:=hide hgF;have RF:=hide hrF;clear hgF hrF A5;go_wp2;exact bodyPost_ret (by simp [results,Tryz.results141,asAddr,Result.andThen,ld]) rfl (FIN.out _ _ ⟨rfl,GF.out,RF.out⟩)
   ·have FIN:Hid (∀e w',RetRb (.tuple #[.agg #[.int .i64 1,.int .i64 0,.int .i64 0],.bool true]) g s (i+1) vp d w e w'→RetAc g s i vp d w e w'):=fun e w' k=>.inl ⟨i+1,_,_,_,.plain HE.out h60 (fun e=>hgo (.inl e)) (fun e=>hgo (.inr e)),k⟩
    refine (peek_any g (i+1) s vp d _ A2.out.rb).mono ?_
    rintro e w3 ⟨rfl,hb3⟩;have A5:=hide (A2.out.below hb3);clear hb3 A2;generalize Pure.pkb s (i+1)=q at *;have n1:(q == 60)=false:=by simpa using h60
    have n2:(q == 62)=false:=by simp;omega
    have n3:(q == 43)=false:=by simp;omega
    clear h60 hgo;have r0:=bc_ 0 A5.out.r rfl;have r1:=bc_ 1 A5.out.r rfl;have r2:=bc_ 2 A5.out.r rfl;have rf0:=blk_frozen A5.out.r 0;have rf1:=blk_frozen A5.out.r 1;have rf2:=blk_frozen A5.out.r 2;have v0:=bc_ 0 A5.out.v rfl;have v1:=bc_ 1 A5.out.v rfl;have v2:=bc_ 2 A5.out.v rfl;obtain⟨ld,hgF,hrF⟩:=A5.out.fin;have GF:=hide hgF;have RF:=hide hrF;clear hgF hrF A5;go_wp2;exact bodyPost_ret (by simp [results,Tryz.results141,asAddr,Result.andThen,ld]) rfl (FIN.out _ _ ⟨rfl,GF.out,RF.out⟩)
 ·rcases Classical.em (Pure.pkb s i=115) with h115 | h115
  ·have HE:Hid (Pure.EmitB (Pure.pkb s i) 0):=.inr ⟨h115,rfl⟩
   rw [h115];clear h115 h101;have c1:=bc_ 1 A1.out.rb rfl;have f1:=blk_frozen A1.out.rb 1;have A2:=hide A1.out.at1
   go_wp2_with fail
   clear c1 f1 A1;generalize w1.setCell ⟨g,1,none⟩ (.int .i64 ((i:Int)+1))=W2 at *;have g1:=blk_lt A2.out.rb;rcases Classical.em (Pure.pkb s (i+1)=60) with h60 | h60
   ·have FIN:Hid (∀e w',RetRb (.tuple #[.agg #[.int .i64 0,.int .i64 3,.int .i64 0],.bool true]) g s (i+2) vp d w e w'→RetAc g s i vp d w e w'):=fun e w' k=>.inl ⟨i+2,_,_,_,.pop HE.out h60,k⟩
    refine (peek_any g (i+1) s vp d _ A2.out.rb).mono ?_
    rintro e w3 ⟨rfl,hb3⟩;have A3:=hide (A2.out.below hb3);clear hb3 A2;rw [h60];clear h60;have c1:=bc_ 1 A3.out.rb rfl;have f1:=blk_frozen A3.out.rb 1;have A4:Hid (AcS g s (i+2) vp d w gR gV 0 0 0 (w3.setCell ⟨g,1,none⟩ (.int .i64 ((i:Int)+1+1)))):=A3.out.at1;go_upto_region 12 with (fail);clear c1 f1 A3;generalize w3.setCell ⟨g,1,none⟩ (.int .i64 ((i:Int)+1+1))=W4 at *;have c1:=bc_ 1 A4.out.v rfl;have f1:=blk_frozen A4.out.v 1;have A5:=hide (A4.out.set1 3);go_upto_region 13 with (fail);clear c1 f1 A4;generalize W4.setCell ⟨gV,1,none⟩ (.int .i64 3)=W5 at *;have r0:=bc_ 0 A5.out.r rfl;have r1:=bc_ 1 A5.out.r rfl;have r2:=bc_ 2 A5.out.r rfl;have rf0:=blk_frozen A5.out.r 0;have rf1:=blk_frozen A5.out.r 1;have rf2:=blk_frozen A5.out.r 2;have v0:=bc_ 0 A5.out.v rfl;have v1:=bc_ 1 A5.out.v rfl;have v2:=bc_ 2 A5.out.v rfl;obtain⟨ld,hgF,hrF⟩:=A5.out.fin;have GF:=hide hgF;have RF:=hide hrF;clear hgF hrF A5;go_wp2;exact bodyPost_ret (by simp [results,Tryz.results141,asAddr,Result.andThen,ld]) rfl (FIN.out _ _ ⟨rfl,GF.out,RF.out⟩)
   ·rcases Classical.em (Pure.pkb s (i+1)=62∨Pure.pkb s (i+1)=43) with hgo | hgo
    ·have j2:i+1<s.size:=Pure.pkb_lt (s:=s) (i:=i+1) (by rcases hgo with h | h <;> rw [h] <;> decide)
     have FIN1:Hid (Pure.Letter (Pure.pkb s (i+2))→∀e w' c,(Pure.pkb s (i+1)=62∧c=1)∨(Pure.pkb s (i+1)=43∧c=2)→RetRb (.tuple #[.agg #[.int .i64 0,.int .i64 c,.int .i64 (Pure.pkb s (i+2)-97)],.bool true]) g s (i+3) vp d w e w'→RetAc g s i vp d w e w'):=by
      intro hL e w' c hc k;rcases hc with ⟨h1,rfl⟩ | ⟨h1,rfl⟩
      ·exact .inl ⟨i+3,_,_,_,.to HE.out h1 hL,k⟩
      ·exact .inl ⟨i+3,_,_,_,.push HE.out h1 hL,k⟩
     have FIN2:Hid (¬Pure.Letter (Pure.pkb s (i+2))→∀e w' c,RetRb (.tuple #[.agg #[.int .i64 0,.int .i64 c,.int .i64 0],.bool false]) g s (i+2) vp d w e w'→RetAc g s i vp d w e w'):=fun hL e w' c k=>.inr ⟨i+2,_,_,_,.mode HE.out hgo hL,k⟩
     refine (peek_any g (i+1) s vp d _ A2.out.rb).mono ?_
     rintro e w3 ⟨rfl,hb3⟩;have A3:=hide (A2.out.below hb3);clear hb3 A2;generalize hq:Pure.pkb s (i+1)=q at *;clear hq h60;have v1:=bc_ 1 A3.out.v rfl;have vf1:=blk_frozen A3.out.v 1;rcases hgo with h | h
     ·subst h
      have A4:=hide (A3.out.set1 1);go_upto_region 18 with (fail);clear v1 vf1 A3;generalize w3.setCell ⟨gV,1,none⟩ (.int .i64 1)=W4 at *;have c1:=bc_ 1 A4.out.rb rfl;have f1:=blk_frozen A4.out.rb 1;have A5:Hid (AcS g s (i+2) vp d w gR gV 0 1 0 (W4.setCell ⟨g,1,none⟩ (.int .i64 ((i:Int)+1+1)))):=A4.out.at1
      go_wp2_with fail
      clear c1 f1 A4;generalize W4.setCell ⟨g,1,none⟩ (.int .i64 ((i:Int)+1+1))=W5 at *;refine (mode_any g (i+2) s vp d W5 A5.out.rb (by omega)).mono ?_
      rintro e w6 (⟨hL,rfl,hg6,hr6⟩ | ⟨hL,rfl,hg6,hr6⟩)
      ·have A6:=hide (A5.out.moved hg6 hr6)
       clear hg6 hr6 A5;have FIN:=hide (fun e w'=>FIN1.out hL e w' 1 (by simp));clear FIN1 FIN2 hL;generalize Pure.pkb s (i+2)-97=x at *;have v2:=bc_ 2 A6.out.v rfl;have vf2:=blk_frozen A6.out.v 2;have A7:=hide (A6.out.set2 x);go_upto_region 21 with (fail);clear v2 vf2 A6;generalize w6.setCell ⟨gV,2,none⟩ (.int .i64 x)=W7 at *;have A5:=A7;clear A7;have r0:=bc_ 0 A5.out.r rfl;have r1:=bc_ 1 A5.out.r rfl;have r2:=bc_ 2 A5.out.r rfl;have rf0:=blk_frozen A5.out.r 0;have rf1:=blk_frozen A5.out.r 1;have rf2:=blk_frozen A5.out.r 2;have v0:=bc_ 0 A5.out.v rfl;have v1:=bc_ 1 A5.out.v rfl;have v2:=bc_ 2 A5.out.v rfl;obtain⟨ld,hgF,hrF⟩:=A5.out.fin;have GF:=hide hgF;have RF:=hide hrF;clear hgF hrF A5;go_wp2;exact bodyPost_ret (by simp [results,Tryz.results141,asAddr,Result.andThen,ld]) rfl (FIN.out _ _ ⟨rfl,GF.out,RF.out⟩)
      ·have A6:=hide (A5.out.moved hg6 hr6)
       clear hg6 hr6 A5;have FIN:=hide (fun e w'=>FIN2.out hL e w' 1);clear FIN1 FIN2 hL;have v2:=bc_ 2 A6.out.v rfl;have vf2:=blk_frozen A6.out.v 2;have A7:=hide (A6.out.set2 0);go_upto_region 21 with (fail);clear v2 vf2 A6;generalize w6.setCell ⟨gV,2,none⟩ (.int .i64 0)=W7 at *;have A5:=A7;clear A7;have r0:=bc_ 0 A5.out.r rfl;have r1:=bc_ 1 A5.out.r rfl;have r2:=bc_ 2 A5.out.r rfl;have rf0:=blk_frozen A5.out.r 0;have rf1:=blk_frozen A5.out.r 1;have rf2:=blk_frozen A5.out.r 2;have v0:=bc_ 0 A5.out.v rfl;have v1:=bc_ 1 A5.out.v rfl;have v2:=bc_ 2 A5.out.v rfl;obtain⟨ld,hgF,hrF⟩:=A5.out.fin;have GF:=hide hgF;have RF:=hide hrF;clear hgF hrF A5;go_wp2;exact bodyPost_ret (by simp [results,Tryz.results141,asAddr,Result.andThen,ld]) rfl (FIN.out _ _ ⟨rfl,GF.out,RF.out⟩)
     ·subst h
      have A4:=hide (A3.out.set1 2);go_upto_region 18 with (fail);clear v1 vf1 A3;generalize w3.setCell ⟨gV,1,none⟩ (.int .i64 2)=W4 at *;have c1:=bc_ 1 A4.out.rb rfl;have f1:=blk_frozen A4.out.rb 1;have A5:Hid (AcS g s (i+2) vp d w gR gV 0 2 0 (W4.setCell ⟨g,1,none⟩ (.int .i64 ((i:Int)+1+1)))):=A4.out.at1
      go_wp2_with fail
      clear c1 f1 A4;generalize W4.setCell ⟨g,1,none⟩ (.int .i64 ((i:Int)+1+1))=W5 at *;refine (mode_any g (i+2) s vp d W5 A5.out.rb (by omega)).mono ?_
      rintro e w6 (⟨hL,rfl,hg6,hr6⟩ | ⟨hL,rfl,hg6,hr6⟩)
      ·have A6:=hide (A5.out.moved hg6 hr6)
       clear hg6 hr6 A5;have FIN:=hide (fun e w'=>FIN1.out hL e w' 2 (by simp));clear FIN1 FIN2 hL;generalize Pure.pkb s (i+2)-97=x at *;have v2:=bc_ 2 A6.out.v rfl;have vf2:=blk_frozen A6.out.v 2;have A7:=hide (A6.out.set2 x);go_upto_region 21 with (fail);clear v2 vf2 A6;generalize w6.setCell ⟨gV,2,none⟩ (.int .i64 x)=W7 at *;have A5:=A7;clear A7;have r0:=bc_ 0 A5.out.r rfl;have r1:=bc_ 1 A5.out.r rfl;have r2:=bc_ 2 A5.out.r rfl;have rf0:=blk_frozen A5.out.r 0;have rf1:=blk_frozen A5.out.r 1;have rf2:=blk_frozen A5.out.r 2;have v0:=bc_ 0 A5.out.v rfl;have v1:=bc_ 1 A5.out.v rfl;have v2:=bc_ 2 A5.out.v rfl;obtain⟨ld,hgF,hrF⟩:=A5.out.fin;have GF:=hide hgF;have RF:=hide hrF;clear hgF hrF A5;go_wp2;exact bodyPost_ret (by simp [results,Tryz.results141,asAddr,Result.andThen,ld]) rfl (FIN.out _ _ ⟨rfl,GF.out,RF.out⟩)
      ·have A6:=hide (A5.out.moved hg6 hr6)
       clear hg6 hr6 A5;have FIN:=hide (fun e w'=>FIN2.out hL e w' 2);clear FIN1 FIN2 hL;have v2:=bc_ 2 A6.out.v rfl;have vf2:=blk_frozen A6.out.v 2;have A7:=hide (A6.out.set2 0);go_upto_region 21 with (fail);clear v2 vf2 A6;generalize w6.setCell ⟨gV,2,none⟩ (.int .i64 0)=W7 at *;have A5:=A7;clear A7;have r0:=bc_ 0 A5.out.r rfl;have r1:=bc_ 1 A5.out.r rfl;have r2:=bc_ 2 A5.out.r rfl;have rf0:=blk_frozen A5.out.r 0;have rf1:=blk_frozen A5.out.r 1;have rf2:=blk_frozen A5.out.r 2;have v0:=bc_ 0 A5.out.v rfl;have v1:=bc_ 1 A5.out.v rfl;have v2:=bc_ 2 A5.out.v rfl;obtain⟨ld,hgF,hrF⟩:=A5.out.fin;have GF:=hide hgF;have RF:=hide hrF;clear hgF hrF A5;go_wp2;exact bodyPost_ret (by simp [results,Tryz.results141,asAddr,Result.andThen,ld]) rfl (FIN.out _ _ ⟨rfl,GF.out,RF.out⟩)
    ·have FIN:Hid (∀e w',RetRb (.tuple #[.agg #[.int .i64 0,.int .i64 0,.int .i64 0],.bool true]) g s (i+1) vp d w e w'→RetAc g s i vp d w e w'):=fun e w' k=>.inl ⟨i+1,_,_,_,.plain HE.out h60 (fun e=>hgo (.inl e)) (fun e=>hgo (.inr e)),k⟩
     refine (peek_any g (i+1) s vp d _ A2.out.rb).mono ?_
     rintro e w3 ⟨rfl,hb3⟩;have A5:=hide (A2.out.below hb3);clear hb3 A2;generalize Pure.pkb s (i+1)=q at *;have n1:(q == 60)=false:=by simpa using h60
     have n2:(q == 62)=false:=by simp;omega
     have n3:(q == 43)=false:=by simp;omega
     clear h60 hgo;have r0:=bc_ 0 A5.out.r rfl;have r1:=bc_ 1 A5.out.r rfl;have r2:=bc_ 2 A5.out.r rfl;have rf0:=blk_frozen A5.out.r 0;have rf1:=blk_frozen A5.out.r 1;have rf2:=blk_frozen A5.out.r 2;have v0:=bc_ 0 A5.out.v rfl;have v1:=bc_ 1 A5.out.v rfl;have v2:=bc_ 2 A5.out.v rfl;obtain⟨ld,hgF,hrF⟩:=A5.out.fin;have GF:=hide hgF;have RF:=hide hrF;clear hgF hrF A5;go_wp2;exact bodyPost_ret (by simp [results,Tryz.results141,asAddr,Result.andThen,ld]) rfl (FIN.out _ _ ⟨rfl,GF.out,RF.out⟩)
  ·have FIN:Hid (∀e w',RetRb (.tuple #[.agg #[.int .i64 0,.int .i64 0,.int .i64 0],.bool false]) g s i vp d w e w'→RetAc g s i vp d w e w'):=fun e w' k=>.inr ⟨i,_,_,_,.none h101 h115,k⟩
   generalize Pure.pkb s i=q at *;have n1:(q == 101)=false:=by simpa using h101
   have n2:(q == 115)=false:=by simpa using h115
   clear h101 h115;have A5:=A1;clear A1;have r0:=bc_ 0 A5.out.r rfl;have r1:=bc_ 1 A5.out.r rfl;have r2:=bc_ 2 A5.out.r rfl;have rf0:=blk_frozen A5.out.r 0;have rf1:=blk_frozen A5.out.r 1;have rf2:=blk_frozen A5.out.r 2;have v0:=bc_ 0 A5.out.v rfl;have v1:=bc_ 1 A5.out.v rfl;have v2:=bc_ 2 A5.out.v rfl;obtain⟨ld,hgF,hrF⟩:=A5.out.fin;have GF:=hide hgF;have RF:=hide hrF;clear hgF hrF A5;go_wp2;exact bodyPost_ret (by simp [results,Tryz.results141,asAddr,Result.andThen,ld]) rfl (FIN.out _ _ ⟨rfl,GF.out,RF.out⟩)
def lnL (mode em act md:Int) (c:Bool) (af:Option Addr) (mf cf:Nat) (al:Option Addr) (nl cl:Nat) (dn:Bool):List Value:=[.int .i64 mode,.int .i64 em,.int .i64 act,.int .i64 md,.bool c,.slice af mf cf,.slice al nl cl,.bool dn]
def Rde (B g:Nat) (s:ByteArray) (i:Nat) (ps:List Pure.Pl) (d:Bool) (W:World):Prop:=∃vp qs,Rd B g s i ps d vp qs W
def RetLn (B g:Nat) (s:ByteArray) (i:Nat) (ps:List Pure.Pl) (w:World) (e:Ending) (w':World):Prop:=
 (∃k x af mf cf al nl cl,Pure.LnP s i k x∧e=.returned (.tuple #[.agg (lnL x.mode x.emit x.act x.md (Pure.part x.re ps).1.empty af mf cf al nl cl x.down).toArray,.bool true])∧Nats w' (.slice af mf cf) (Pure.part x.re ps).1.first∧Nats w' (.slice al nl cl) (Pure.part x.re ps).1.last∧Rk B w w'∧Rde B g s k (Pure.part x.re ps).2 x.down w')∨
 (∃k mode em act md c af mf cf al nl cl dn ps' d',Pure.LnF s i k∧e=.returned (.tuple #[.agg (lnL mode em act md c af mf cf al nl cl dn).toArray,.bool false])∧Rk B w w'∧Rde B g s k ps' d' w')
structure LS (B g:Nat) (s:ByteArray) (k:Nat) (ps:List Pure.Pl) (d:Bool) (w:World) (gR:Nat) (W:World):Prop where
 rd:Rde B g s k ps d W
 rk:Rk B w W
 r:Blk W gR 85 (lnL 0 0 0 0 false none 0 0 none 0 0 false)
 ap:w.heap.size≤gR∧B≤w.heap.size
section
variable {B g:Nat} {s:ByteArray} {k j:Nat} {ps ps':List Pure.Pl} {d d':Bool} {w:World} {gR:Nat} {W W':World} {vp:Value} {qs:List (Pure.Pl × Value)}
theorem Rde.lt (h:Rde B g s k ps d W):B≤W.heap.size:=by obtain⟨vp,qs,rd⟩:=h;exact rd.lt
theorem Rde.below (h:Rde B g s k ps d W) (hb:Below W.heap.size W W'):Rde B g s k ps d W':=by obtain⟨vp,qs,rd⟩:=h;exact⟨vp,qs,rd.below hb⟩
theorem LS.below (h:LS B g s k ps d w gR W) (hb:Below W.heap.size W W'):LS B g s k ps d w gR W':=⟨h.rd.below hb,h.rk.trans (.below h.rd.lt hb),blk_below h.r hb (blk_lt h.r),h.ap⟩
theorem LS.on (h:LS B g s k ps d w gR W) (rk:Rk B W W') (rd:Rde B g s j ps' d' W'):LS B g s j ps' d' w gR W':=⟨rd,h.rk.trans rk,rk.blk h.r (by decide) (by decide),h.ap⟩
theorem line_load {W:World} {g:Nat} {mode em act md:Int} {c dn:Bool} {af al:Option Addr} {mf cf nl cl:Nat} (h:Blk W g 85 (lnL mode em act md c af mf cf al nl cl dn)):(loadVar 85 ⟨g,0,none⟩).run Tryz.prog W=.ok (.agg (lnL mode em act md c af mf cf al nl cl dn).toArray) W:=
 run_loadVar_mid W g 0 85 (lnL mode em act md c af mf cf al nl cl dn) _ (blk_range h) Tryz.underlying85 rfl (by kernel_rfl)
theorem lnL_one {mode em act md:Int} {c dn:Bool} {af al:Option Addr} {mf cf nl cl:Nat}:∀u∈lnL mode em act md c af mf cf al nl cl dn,u.oneCell'=true:=by
 intro u hu
 simp [lnL] at hu
 rcases hu with rfl | rfl | rfl | rfl | rfl | rfl | rfl | rfl <;> rfl
theorem LS.put (h:LS B g s k ps d w gR W) (mode em act md:Int) (c:Bool) (af:Option Addr) (mf cf:Nat) (al:Option Addr) (nl cl:Nat) (dn:Bool) :
  (loadVar 85 ⟨gR,0,none⟩).run Tryz.prog (W.setCells gR 0 (lnL mode em act md c af mf cf al nl cl dn))=.ok (.agg (lnL mode em act md c af mf cf al nl cl dn).toArray) (W.setCells gR 0 (lnL mode em act md c af mf cf al nl cl dn))∧
  Rk B w (W.setCells gR 0 (lnL mode em act md c af mf cf al nl cl dn))∧Rde B g s k ps d (W.setCells gR 0 (lnL mode em act md c af mf cf al nl cl dn))∧(∀v l,Nats W v l→Nats (W.setCells gR 0 (lnL mode em act md c af mf cf al nl cl dn)) v l):=by
 obtain⟨vp,qs,rd⟩:=h.rd
 have g5:=grown_cells (g:=gR) (lnL mode em act md c af mf cf al nl cl dn) 0 W
 exact⟨line_load (blk_stored _ h.r rfl),h.rk.fresh g5 h.ap.1 h.ap.2,⟨vp,qs,rd.far h.r (by decide) (by decide) (by decide) g5⟩,fun v l hn=>nats_grown hn h.r (by decide) g5⟩
end
theorem yieldsIf_build4 {P:Program} {ops:Array Oper} {S:World→Prop} {op:Oper} {a:Act} (hw:Region.wanted op (yielded ops a.tmps)=true) (t:TypeId) (x0 x1 x2 x3:Operand) (v0 v1 v2 v3:Value) (ho:op.op=.build t #[(0,x0),(1,x1),(2,x2),(3,x3)]) (h0:a.eval x0=v0) (h1:a.eval x1=v1) (h2:a.eval x2=v2) (h3:a.eval x3=v3) (cells:Array Value) (hf:P.built t [(0,v0),(1,v1),(2,v2),(3,v3)]=some cells):YieldsIf P ops S op (.agg cells) a:=
 .inl ⟨hw,fun w _=>by
  subst h0 h1 h2 h3;have h:=run_build (P:=P) w t #[(0,a.eval x0),(1,a.eval x1),(2,a.eval x2),(3,a.eval x3)] cells hf;unfold execOp;simp only [ho,Sem.run_bind,List.map_toArray,List.map_cons,List.map_nil];rw [h]
  rfl⟩
theorem line_built (mo eb c m:Int) (em dn:Bool) (af:Option Addr) (mf cf:Nat) (al:Option Addr) (nl cl:Nat):Tryz.prog.built 85 [(0,.int .i64 mo),(1,.agg #[.int .i64 eb,.int .i64 c,.int .i64 m]),(2,.agg #[.bool em,.slice af mf cf,.slice al nl cl]),(3,.bool dn)]=some (lnL mo eb c m em af mf cf al nl cl dn).toArray:=by kernel_rfl
theorem step_store_midE {P:Program} {w:World} {ops:Array Oper} {o:Oper} {a:Act} {K:Act→World→Prop} {Q:Exit→Act→World→Prop} {E:Prop} (hgd:o.guard=none) (ty:TypeId) (x y:Operand) (ho:o.op=.store ty x y)
  (b off:Nat) (cells:Array Value) (hx:a.eval x=.pointer (some ⟨b,off,none⟩)) (hy:a.eval y=.agg cells) (ht:w.there b off cells.size) (hi:(P.info? ty).map (·.size)=some cells.size) (h1:cells.all (·.oneCell')=true)
  (h:K (a.put o.dst undef) (w.setCells b off cells.toList)):if Region.wanted o (yielded ops a.tmps)=true then Oper.wp P o a w K Q else E:=by
 have hw:Region.wanted o (yielded ops a.tmps)=true:=by simp [Region.wanted,hgd]
 rw [if_pos hw]
 exact wp_store_mid ty x y ho b off cells hx hy ht hi h1 h
theorem line_there {W:World} {g:Nat} {mode em act md mode' em' act' md':Int} {c dn c' dn':Bool} {af al af' al':Option Addr} {mf cf nl cl mf' cf' nl' cl':Nat} (h:Blk W g 85 (lnL mode em act md c af mf cf al nl cl dn)):W.there g 0 (lnL mode' em' act' md' c' af' mf' cf' al' nl' cl' dn').toArray.size:=by
 have:=blk_there h
 exact this
structure LnS (gU gP g:Nat) (eb c m:Int) (em:Bool) (af:Option Addr) (mf cf:Nat) (al:Option Addr) (nl cl:Nat) (D:Bool) (w':World):Prop where
 u0:w'.cell? ⟨gU,0,none⟩=some (.int .i64 eb)
 u1:w'.cell? ⟨gU,1,none⟩=some (.int .i64 c)
 u2:w'.cell? ⟨gU,2,none⟩=some (.int .i64 m)
 p0:w'.cell? ⟨gP,0,none⟩=some (.bool em)
 p1:w'.cell? ⟨gP,1,none⟩=some (.slice af mf cf)
 p2:w'.cell? ⟨gP,2,none⟩=some (.slice al nl cl)
 r3:w'.cell? ⟨g,3,none⟩=some (.bool D)
theorem line_any (B g i:Nat) (s:ByteArray) (ps:List Pure.Pl) (d:Bool) (w:World) (h:Rde B g s i ps d w) (hok:Pure.PlsOK ps) (hl:ps.length≤i) (hi:i≤s.size) (hs:s.size≤400) :
  Calls Tryz.prog 114 #[.pointer (some ⟨g,0,none⟩)] w (RetLn B g s i ps w):=by
 have BL:=h.lt
 obtain⟨vp,qs,rd⟩:=h
 have gl:=rd.rb.lt
 have hg0:=Lib.grownBy_setCell w g 3 (.bool false)
 have r0:Rd B g s i ps false vp qs (w.setCell ⟨g,3,none⟩ (.bool false)):=rd.moved hg0 (blk_set rd.rb 3 _)
 have sz0:(w.setCell ⟨g,3,none⟩ (.bool false)).heap.size=w.heap.size:=by simp [World.setCell]
 have hb0:=(Below.refl (w.setCell ⟨g,3,none⟩ (.bool false)).heap.size (w.setCell ⟨g,3,none⟩ (.bool false))).alloc lr_ (.cells (lnL 0 0 0 0 false none 0 0 none 0 0 false).toArray 85)
 have r1:=r0.below hb0
 have L0:Hid (LS B g s i ps false w w.heap.size ((w.setCell ⟨g,3,none⟩ (.bool false)).alloc (.cells (lnL 0 0 0 0 false none 0 0 none 0 0 false).toArray 85))):=⟨⟨vp,qs,r1⟩,(rd.rk hg0).trans (.below r0.lt hb0),by have:=heap_alloc_new (w.setCell ⟨g,3,none⟩ (.bool false)) (.cells (lnL 0 0 0 0 false none 0 0 none 0 0 false).toArray 85);rw [sz0] at this;exact this,lr_,BL⟩
 have R0:=hide r1
 have c3:=bc_ 3 rd.rb rfl
 have f3:=blk_frozen rd.rb 3
 have OK:=hide hok
 have gne:g≠w.heap.size:=by omega
 clear hb0 hg0 r0 r1 rd hok sz0
 go_enter Tryz.func114,Tryz.ntmps114
 go_wp2_with fail
 generalize hW:(w.setCell ⟨g,3,none⟩ (.bool false)).alloc (.cells (lnL 0 0 0 0 false none 0 0 none 0 0 false).toArray 85)=W0 at *
 simp only [lnL] at hW
 rw [hW]
 clear hW c3 f3 gne
 generalize w.heap.size=gR at *
 refine (mode_any g i s vp false W0 R0.out.rb (by omega)).mono ?_
 rintro e w1 (⟨hL,rfl,hg1,hr1⟩ | ⟨hL,rfl,hg1,hr1⟩)
 rotate_left
 ·have LL:=hide (L0.out.on (R0.out.rk hg1) ⟨vp,qs,R0.out.moved hg1 hr1⟩)
  have FF:Hid (Pure.LnF s i i):=.mode hL;clear hg1 hr1 L0 R0 hL;have LX:=LL;clear LL;obtain⟨ld,kF,rF,_⟩:=LX.out.put 0 0 0 0 false none 0 0 none 0 0 false;have KF:=hide kF;have RF:=hide rF;clear kF rF
  go_wp2_with (refine wpList_store_mid rfl 85 (.tmp 2) (.tmp 23) rfl gR 0 (lnL 0 0 0 0 false none 0 0 none 0 0 false).toArray rfl rfl (line_there LX.out.r) (by kernel_rfl) (all_oneCell_toArray lnL_one) ?_)
  exact bodyPost_ret (by simp [results,Tryz.results114,asAddr,Result.andThen,ld]) rfl (.inr ⟨_,0,0,0,0,false,none,0,0,none,0,0,false,_,_,FF.out,rfl,KF.out,RF.out⟩)
 ·have L1:=hide (L0.out.on (R0.out.rk hg1) ⟨vp,qs,R0.out.moved hg1 hr1⟩)
  have R1:=hide (R0.out.moved hg1 hr1);have i1:i<s.size:=Pure.pkb_lt (s:=s) (i:=i) (by unfold Pure.Letter at hL;omega);have HL:=hide hL;clear hg1 hr1 L0 R0 hL;obtain⟨mo,hmo⟩:∃mo,mo=Pure.pkb s i-97:=⟨_,rfl⟩;have HM:=hide hmo;rw [←hmo];clear hmo
  go_wp2_with fail
  refine (take_any g (i+1) s vp false 32 w1 R1.out.rb (by omega)).mono ?_
  rcases Classical.em (Pure.pkb s (i+1)=32) with h32 | h32
  rotate_left
  ·rw [if_neg h32,decide_eq_false h32]
   rintro e w2 ⟨rfl,hg2,hr2⟩;have LL:=hide (L1.out.on (R1.out.rk hg2) ⟨vp,qs,R1.out.moved hg2 hr2⟩);have FF:Hid (Pure.LnF s i (i+1)):=.blank HL.out h32;clear hg2 hr2 L1 R1 h32;have LX:=LL;clear LL;obtain⟨ld,kF,rF,_⟩:=LX.out.put 0 0 0 0 false none 0 0 none 0 0 false;have KF:=hide kF;have RF:=hide rF;clear kF rF
   go_wp2_with (refine wpList_store_mid rfl 85 (.tmp 2) (.tmp 23) rfl gR 0 (lnL 0 0 0 0 false none 0 0 none 0 0 false).toArray rfl rfl (line_there LX.out.r) (by kernel_rfl) (all_oneCell_toArray lnL_one) ?_)
   exact bodyPost_ret (by simp [results,Tryz.results114,asAddr,Result.andThen,ld]) rfl (.inr ⟨_,0,0,0,0,false,none,0,0,none,0,0,false,_,_,FF.out,rfl,KF.out,RF.out⟩)
  ·rw [if_pos h32,decide_eq_true h32]
   rintro e w2 ⟨rfl,hg2,hr2⟩;have L2:=hide (L1.out.on (R1.out.rk hg2) ⟨vp,qs,R1.out.moved hg2 hr2⟩);have R2:=hide (R1.out.moved hg2 hr2);have i2:i+1<s.size:=Pure.pkb_lt (s:=s) (i:=i+1) (by rw [h32];decide);have H32:=hide h32;clear hg2 hr2 L1 R1 h32
   go_wp2_with fail
   refine (pattern_all s hs (i+2) i2 B g ps false vp qs w2 R2.out OK.out (by omega)).mono ?_
   rintro e w3 (⟨j,re,D,v,vp3,qs3,hP,rfl,pm,rk,rd⟩ | ⟨j,a2,ps2,d2,v,vp3,qs3,hF,rfl,pm,oa,ok2,lk,rk,rd⟩)
   rotate_left
   ·obtain⟨af,mf,cf,al,nl,cl,rfl,n1,n2⟩:=pm
    have hb:=(Below.refl w3.heap.size w3).alloc lr_ (.cells #[.bool a2.empty,.slice af mf cf,.slice al nl cl] 83);have LL:=hide ((L2.out.on rk ⟨vp3,qs3,rd⟩).below hb);have FF:Hid (Pure.LnF s i j):=.pat HL.out H32.out hF;clear hb rk rd n1 n2 L2 R2 hF oa ok2;go_upto_region 6 with (fail);generalize w3.alloc (.cells #[.bool a2.empty,.slice af mf cf,.slice al nl cl] 83)=W3 at *;have LX:=LL;clear LL;obtain⟨ld,kF,rF,_⟩:=LX.out.put 0 0 0 0 false none 0 0 none 0 0 false;have KF:=hide kF;have RF:=hide rF;clear kF rF
    go_wp2_with (refine wpList_store_mid rfl 85 (.tmp 2) (.tmp 36) rfl gR 0 (lnL 0 0 0 0 false none 0 0 none 0 0 false).toArray rfl rfl (line_there LX.out.r) (by kernel_rfl) (all_oneCell_toArray lnL_one) ?_)
    exact bodyPost_ret (by simp [results,Tryz.results114,asAddr,Result.andThen,ld]) rfl (.inr ⟨_,0,0,0,0,false,none,0,0,none,0,0,false,_,_,FF.out,rfl,KF.out,RF.out⟩)
   ·obtain⟨af,mf,cf,al,nl,cl,rfl,n1,n2⟩:=pm
    have jl:j≤s.size:=hP.le i2 2 (.inl ⟨trivial,.inl rfl⟩);have hb:=(Below.refl w3.heap.size w3).alloc lr_ (.cells #[.bool (Pure.part re ps).1.empty,.slice af mf cf,.slice al nl cl] 83);have rd:Rd B g s j (Pure.part re ps).2 D vp3 qs3 w3:=rd;have L3:=hide ((L2.out.on rk ⟨vp3,qs3,rd⟩).below hb);have R3:=hide (rd.below hb);have N1:=hide (n1.below hb);have N2:=hide (n2.below hb);have XP:Hid (Blk (w3.alloc (.cells #[.bool (Pure.part re ps).1.empty,.slice af mf cf,.slice al nl cl] 83)) w3.heap.size 83 [.bool (Pure.part re ps).1.empty,.slice af mf cf,.slice al nl cl]):=heap_alloc_new _ _;have HP:=hide hP;obtain⟨em,hem⟩:∃em,em=(Pure.part re ps).1.empty:=⟨_,rfl⟩;have HEM:=hide hem;rw [←hem] at L3 R3 N1 N2 XP;rw [←hem];clear hb rk rd n1 n2 L2 R2 hP hem
    go_wp2_with fail
    generalize w3.alloc (.cells #[.bool em,.slice af mf cf,.slice al nl cl] 83)=W3 at *;generalize w3.heap.size=gP at *;refine (take_any g j s vp3 D 32 W3 R3.out.rb (by omega)).mono ?_
    rcases Classical.em (Pure.pkb s j=32) with h32 | h32
    rotate_left
    ·rw [if_neg h32,decide_eq_false h32]
     rintro e w4 ⟨rfl,hg4,hr4⟩;have LL:=hide (L3.out.on (R3.out.rk hg4) ⟨vp3,qs3,R3.out.moved hg4 hr4⟩);have FF:Hid (Pure.LnF s i j):=.blank' HL.out H32.out HP.out h32;clear hg4 hr4 L3 R3 h32;have LX:=LL;clear LL;obtain⟨ld,kF,rF,_⟩:=LX.out.put 0 0 0 0 false none 0 0 none 0 0 false;have KF:=hide kF;have RF:=hide rF;clear kF rF
     go_wp2_with (refine wpList_store_mid rfl 85 (.tmp 2) (.tmp 36) rfl gR 0 (lnL 0 0 0 0 false none 0 0 none 0 0 false).toArray rfl rfl (line_there LX.out.r) (by kernel_rfl) (all_oneCell_toArray lnL_one) ?_)
     exact bodyPost_ret (by simp [results,Tryz.results114,asAddr,Result.andThen,ld]) rfl (.inr ⟨_,0,0,0,0,false,none,0,0,none,0,0,false,_,_,FF.out,rfl,KF.out,RF.out⟩)
    ·rw [if_pos h32,decide_eq_true h32]
     rintro e w4 ⟨rfl,hg4,hr4⟩;have k4:=R3.out.rk hg4;have L4:=hide (L3.out.on k4 ⟨vp3,qs3,R3.out.moved hg4 hr4⟩);have R4:=hide (R3.out.moved hg4 hr4);have M1:=hide (k4.nats N1.out);have M2:=hide (k4.nats N2.out);have XP4:=hide (k4.blk XP.out (by decide) (by decide));have j1:j<s.size:=Pure.pkb_lt (s:=s) (i:=j) (by rw [h32];decide);have H32':=hide h32;clear hg4 hr4 L3 R3 h32 k4 N1 N2 XP
     go_wp2_with fail
     refine (action_any g (j+1) s vp3 D w4 R4.out.rb (by omega)).mono ?_
     intro e w5 hq
     have hq:∃k eb c m ok,(ok=true→Pure.Act s (j+1) k eb c m)∧(ok=false→Pure.ActF s (j+1) k)∧RetRb (.tuple #[.agg #[.int .i64 eb,.int .i64 c,.int .i64 m],.bool ok]) g s k vp3 D w4 e w5:=by
      rcases hq with ⟨k,eb,c,m,h1,h2⟩ | ⟨k,eb,c,m,h1,h2⟩
      ·exact⟨k,eb,c,m,true,fun _=>h1,fun e=>(by cases e),h2⟩
      ·exact⟨k,eb,c,m,false,fun e=>(by cases e),fun _=>h1,h2⟩
     obtain⟨k,eb,c,m,ok,hA,hAF,rfl,hg5,hr5⟩:=hq;have k5:=R4.out.rk hg5;have r5:=R4.out.moved hg5 hr5;have hb:=(Below.refl w5.heap.size w5).alloc lr_ (.cells #[.int .i64 eb,.int .i64 c,.int .i64 m] 59);have L5:=hide ((L4.out.on k5 ⟨vp3,qs3,r5⟩).below hb);have R5:=hide (r5.below hb);have Q1:=hide ((k5.nats M1.out).below hb);have Q2:=hide ((k5.nats M2.out).below hb);have xp5:=k5.blk XP4.out (by decide) (by decide);have XP5:=hide (blk_below xp5 hb (blk_lt xp5));have XU:Hid (Blk (w5.alloc (.cells #[.int .i64 eb,.int .i64 c,.int .i64 m] 59)) w5.heap.size 59 [.int .i64 eb,.int .i64 c,.int .i64 m]):=heap_alloc_new _ _;have HA:=hide hA;have HAF:=hide hAF;clear hg5 hr5 k5 r5 hb L4 R4 M1 M2 XP4 xp5 hA hAF;have r3:=bc_ 3 R5.out.rb rfl;have p0:=bc_ 0 XP5.out rfl;have p1:=bc_ 1 XP5.out rfl;have p2:=bc_ 2 XP5.out rfl;have u0:=bc_ 0 XU.out rfl;have u1:=bc_ 1 XU.out rfl;have u2:=bc_ 2 XU.out rfl;go_upto_region 9 with (fail);generalize w5.alloc (.cells #[.int .i64 eb,.int .i64 c,.int .i64 m] 59)=W5 at *;generalize w5.heap.size=gU at *;have dr:=(Below.refl W5.heap.size W5).drew;have LX:=hide (L5.out.below dr);obtain⟨ld,kF,rF,nF⟩:=LX.out.put mo eb c m em af mf cf al nl cl D;have KF:=hide kF;have RF:=hide rF;have NF1:=hide (nF _ _ (Q1.out.below dr));have NF2:=hide (nF _ _ (Q2.out.below dr));clear kF rF nF Q1 Q2
     have FIN:Hid (RetLn B g s i ps w (.returned (.tuple #[.agg (lnL mo eb c m em af mf cf al nl cl D).toArray,.bool ok])) (W5.drew.setCells gR 0 (lnL mo eb c m em af mf cf al nl cl D))):=by
      cases ok with
      | true=>exact .inl ⟨k,⟨mo,eb,c,m,re,D⟩,af,mf,cf,al,nl,cl,by rw [HM.out];exact .mk HL.out H32.out HP.out H32'.out (HA.out rfl),by rw [←HEM.out],NF1.out,NF2.out,KF.out,RF.out⟩
      | false=>exact .inr ⟨k,_,_,_,_,_,_,_,_,_,_,_,_,_,_,.act HL.out H32.out HP.out H32'.out (HAF.out rfl),rfl,KF.out,RF.out⟩
     have S1:LnS gU gP g eb c m em af mf cf al nl cl D W5.drew:=⟨u0,u1,u2,p0,p1,p2,r3⟩;have yU:=blk_setCells_other (lnL mo eb c m em af mf cf al nl cl D) 0 W5.drew XU.out (blk_ne2 XU.out LX.out.r (by decide));have yP:=blk_setCells_other (lnL mo eb c m em af mf cf al nl cl D) 0 W5.drew XP5.out (blk_ne2 XP5.out LX.out.r (by decide));have yR:=blk_setCells_other (lnL mo eb c m em af mf cf al nl cl D) 0 W5.drew R5.out.rb (blk_ne2 R5.out.rb LX.out.r (by decide));have S6:LnS gU gP g eb c m em af mf cf al nl cl D (W5.drew.setCells gR 0 (lnL mo eb c m em af mf cf al nl cl D).toArray.toList):=⟨blk_cell (j:=0) yU rfl,blk_cell (j:=1) yU rfl,blk_cell (j:=2) yU rfl,blk_cell (j:=0) yP rfl,blk_cell (j:=1) yP rfl,blk_cell (j:=2) yP rfl,blk_cell (j:=3) yR rfl⟩;clear yU yP yR u0 u1 u2 p0 p1 p2 r3;refine wp_region_held_drew (S:=LnS gU gP g eb c m em af mf cf al nl cl D) (by kernel_rfl) S1 (fun hHeld=>?_);refine wpAnyH_take (i:=0) (v:=?v0) rfl (by kernel_rfl) (by kernel_rfl) (by kernel_rfl) (fun _ _ _ h=>h) (Or.inl ⟨by rfl,?hy0⟩) (by assumption) ?rest0
     case hy0=>(intro w hSw;obtain⟨h0,h1,h2,h3,h4,h5,h6⟩:=hSw;go_simp;try (with_reducible rfl))
     simp only [List.getElem_toArray,List.getElem_cons_zero,Act.put,List.setIfInBounds_toArray,List.set_cons_zero,List.set_cons_succ];refine wpAnyH_take (i:=1) (v:=?v1) rfl (by kernel_rfl) (by kernel_rfl) (by kernel_rfl) (fun _ _ _ h=>h) (Or.inl ⟨by rfl,?hy1⟩) (by assumption) ?rest1
     case hy1=>(intro w hSw;obtain⟨h0,h1,h2,h3,h4,h5,h6⟩:=hSw;go_simp;try (with_reducible rfl))
     simp only [tk_,Act.put];refine wpAnyH_take (i:=2) (v:=?v2) rfl (by kernel_rfl) (by kernel_rfl) (by kernel_rfl) (fun _ _ _ h=>h) (Or.inl ⟨by rfl,?hy2⟩) (by assumption) ?rest2
     case hy2=>(intro w hSw;obtain⟨h0,h1,h2,h3,h4,h5,h6⟩:=hSw;go_simp;try (with_reducible rfl))
     simp only [tk_,Act.put];refine wpAnyH_take (i:=3) (v:=?v3) rfl (by kernel_rfl) (by kernel_rfl) (by kernel_rfl) (fun _ _ _ h=>h) (Or.inl ⟨by rfl,?hy3⟩) (by assumption) ?rest3
     case hy3=>(intro w hSw;obtain⟨h0,h1,h2,h3,h4,h5,h6⟩:=hSw;go_simp;try (with_reducible rfl))
     simp only [tk_,Act.put];refine wpAnyH_take (i:=4) (v:=?v4) rfl (by kernel_rfl) (by kernel_rfl) (by kernel_rfl) (fun _ _ _ h=>h) (Or.inl ⟨by rfl,?hy4⟩) (by assumption) ?rest4
     case hy4=>(intro w hSw;obtain⟨h0,h1,h2,h3,h4,h5,h6⟩:=hSw;go_simp;try (with_reducible rfl))
     simp only [tk_,Act.put];refine wpAnyH_take (i:=5) (v:=?v5) rfl (by kernel_rfl) (by kernel_rfl) (by kernel_rfl) (fun _ _ _ h=>h) (Or.inl ⟨by rfl,?hy5⟩) (by assumption) ?rest5
     case hy5=>(intro w hSw;obtain⟨h0,h1,h2,h3,h4,h5,h6⟩:=hSw;go_simp;try (with_reducible rfl))
     simp only [tk_,Act.put];refine wpAnyH_take (i:=6) (v:=?v6) rfl (by kernel_rfl) (by kernel_rfl) (by kernel_rfl) (fun _ _ _ h=>h) (Or.inl ⟨by rfl,?hy6⟩) (by assumption) ?rest6
     case hy6=>(intro w hSw;obtain⟨h0,h1,h2,h3,h4,h5,h6⟩:=hSw;go_simp;try (with_reducible rfl))
     simp only [tk_,Act.put];refine wpAnyH_take (i:=7) (v:=.agg (lnL mo eb c m em af mf cf al nl cl D).toArray) rfl (by kernel_rfl) (by kernel_rfl) (by kernel_rfl) (fun _ _ _ h=>h) (yieldsIf_build4 (by rfl) 85 (.tmp 42) (.tmp 43) (.tmp 44) (.tmp 48) (.int .i64 mo) (.agg #[.int .i64 eb,.int .i64 c,.int .i64 m]) (.agg #[.bool em,.slice af mf cf,.slice al nl cl]) (.bool D) rfl rfl rfl rfl rfl _ (line_built _ _ _ _ _ _ _ _ _ _ _ _)) (by assumption) ?_
     simp only [tk_,Act.put];refine wpAnyH_take (i:=8) (v:=?v8) rfl (by kernel_rfl) (by kernel_rfl) (by kernel_rfl) (fun _ _ _ h=>h) (Or.inl ⟨by rfl,?hy8⟩) (by assumption) ?rest8
     case hy8=>(intro w hSw;go_simp;try (with_reducible rfl))
     simp only [tk_,Act.put];refine wpAnyH_ready (rs:=[9]) (by kernel_rfl) (by simp) ?_
     refine AllReadyH.cons rfl (fun K hK=>?_) AllReadyH.nil;refine step_store_midE rfl 85 (.tmp 2) (.tmp 49) rfl gR 0 (lnL mo eb c m em af mf cf al nl cl D).toArray rfl rfl (line_there LX.out.r) (by kernel_rfl) (all_oneCell_toArray lnL_one) ?_
     refine hK.out _ _ S6 (fun hHeld2=>?_);clear hK K;simp only [List.getElem_toArray,List.getElem_cons_succ,List.getElem_cons_zero,Act.put];refine wpAnyH_ready (rs:=[10]) (by kernel_rfl) (by simp) ?_
     refine AllReadyH.cons rfl (fun K hK=>?_) AllReadyH.nil
     go_simp
     refine hK.out _ _ hHeld2 (fun hHeld3=>?_);clear hK K;refine wpAnyH_done (by kernel_rfl) ?_ _;clear hHeld hHeld2 hHeld3;go_wp2;exact bodyPost_ret (by simp [results,Tryz.results114,asAddr,Result.andThen,ld]) rfl FIN.out
end Go.Proofs.YtmccnmgaoppogaaGreat
