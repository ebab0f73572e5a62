/-
 The walks: the reader's bytes. (rules)
 The walks: items of classes. (rules)
-/
import Derived.Test.YtmccnmgaoppogaaGreatE3A
import Derived.Lib.BufferOwn
import Derived.OwnWalk
namespace Go.Proofs.YtmccnmgaoppogaaGreat
set_option maxRecDepth 100000
set_option maxHeartbeats 8000000
open Go.RowKit
def rdC (s:ByteArray) (i:Nat) (vp:Value) (d:Bool):List Value:=[.string s,.int .i64 i,vp,.bool d]
def Rb (W:World) (g:Nat) (s:ByteArray) (i:Nat) (vp:Value) (d:Bool):Prop:=Blk W g 184 (rdC s i vp d)
theorem grown_bel {w w':World} (g:Option Nat) (hb:Below w.heap.size w w'):w.grownBy w' g:=⟨hb.os,hb.tape,hb.output,hb.size,fun k hk _=>hb.block k hk⟩
section
variable {W W':World} {g i:Nat} {s:ByteArray} {vp:Value} {d:Bool}
theorem Rb.lt (h:Rb W g s i vp d):g<W.heap.size:=blk_lt h
theorem Rb.below (h:Rb W g s i vp d) (hb:Below W.heap.size W W'):Rb W' g s i vp d:=blk_below h hb (blk_lt h)
theorem Rb.at (h:Rb W g s i vp d) (j:Nat):Rb (W.setCell ⟨g,1,none⟩ (.int .i64 (j:Int))) g s j vp d:=blk_set h 1 _
theorem Rb.down (h:Rb W g s i vp d):Rb (W.setCell ⟨g,3,none⟩ (.bool true)) g s i vp true:=blk_set h 3 _
end
theorem peek_any (g i:Nat) (s:ByteArray) (vp:Value) (d:Bool) (w:World) (h:Rb w g s i vp d) :
  Calls Tryz.prog 142 #[.pointer (some ⟨g,0,none⟩)] w (RetVal (.int .i64 (Pure.pkb s i)) w):=by
 have c0:=bc_ 0 h rfl
 have c1:=bc_ 1 h rfl
 clear h
 go_enter Tryz.func142,Tryz.ntmps142
 by_cases hl:i<s.size
 ·have d1:decide ((s.size:Int)≤(i:Int))=false:=decide_eq_false (by omega)
  have x0:=fun w=>idx_str s (i:Int) i rfl (by omega) w
  have j0:=nz_ i;have j1:(i:Int)<(s.size:Int):=by omega
  have hb:=bt_bd s i;rw [Pure.pkb_bt hl];generalize bt s i=b at *
  go_wp2_with fail
  go_quiet (fail)
  go_wp2_with fail
  go_quiet (fail);go_wp2;go_ret;exact⟨rfl,below_drewN (below_drewN (Below.refl _ _) _) _⟩
 ·have d1:decide ((s.size:Int)≤(i:Int))=true:=decide_eq_true (by omega)
  rw [Pure.pkb_end (by omega)]
  go_wp2_with fail
  go_quiet (fail);go_wp2;go_ret;exact⟨rfl,below_drewN (Below.refl _ _) _⟩
def RetRb (v:Value) (g:Nat) (s:ByteArray) (j:Nat) (vp:Value) (d:Bool) (w:World) (e:Ending) (w':World):Prop:=
 e=.returned v∧w.grownBy w' (some g)∧Rb w' g s j vp d
theorem take_any (g i:Nat) (s:ByteArray) (vp:Value) (d:Bool) (b:Int) (w:World) (h:Rb w g s i vp d) (hi:i≤1000000) :
  Calls Tryz.prog 115 #[.pointer (some ⟨g,0,none⟩),.int .i64 b] w (RetRb (.bool (decide (Pure.pkb s i=b))) g s (if Pure.pkb s i=b then i+1 else i) vp d w):=by
 have PK:=hide (peek_any g i s vp d w h)
 have H0:=hide h
 clear h
 by_cases hp:Pure.pkb s i=b
 ·rw [if_pos hp,decide_eq_true hp]
  rw [hp] at PK;clear hp;go_enter Tryz.func115,Tryz.ntmps115
  go_wp2_with fail
  refine PK.out.mono ?_
  clear PK;rintro e w1 ⟨rfl,hb1⟩;have H1:=hide (H0.out.below hb1);have G1:=hide (grown_bel (some g) hb1);clear hb1 H0;have c1:=bc_ 1 H1.out rfl;have f1:=blk_frozen H1.out 1;have wi:=wr_ (i:Int) (by omega) (by omega);have N1:=hide (H1.out.at (i+1));go_wp2;go_ret;exact⟨rfl,G1.out.trans (Lib.grownBy_setCell _ g 1 _),N1.out⟩
 ·rw [if_neg hp,decide_eq_false hp]
  generalize Pure.pkb s i=p at *;have n2:(p != b)=true:=by simpa using hp
  go_enter Tryz.func115,Tryz.ntmps115
  go_wp2_with fail
  refine PK.out.mono ?_
  clear PK;rintro e w1 ⟨rfl,hb1⟩;have H1:=hide (H0.out.below hb1);have G1:=hide (grown_bel (some g) hb1);clear hb1 H0;go_wp2;go_ret;exact⟨rfl,G1.out,H1.out⟩
namespace Pure
theorem EscOK.ne {b:Int} (h:EscOK b):b≠-1:=by unfold EscOK at h;omega
theorem EscOK.esc {b:Int} (h:EscOK b):∃v,Esc b v:=by
 unfold EscOK at h
 unfold Esc
 rcases h with h | h | h
 ·exact⟨b,.inl ⟨h,rfl⟩⟩
 ·exact⟨10,.inr (.inl ⟨h,rfl⟩)⟩
 ·exact⟨32,.inr (.inr ⟨h,rfl⟩)⟩
theorem Sg.le {s:ByteArray} {i j:Nat} {v:Int} (h:Sg s i j v):j≤s.size:=by
 cases h with
 | plain h1 _=>exact pkb_lt (fun e=>h1 (.inr (.inr (.inr (.inr e)))))
 | esc _ h2=>exact pkb_lt (h2.ok.ne)
theorem SgF.le {s:ByteArray} {i j:Nat} (h:SgF s i j) (hi:i≤s.size):j≤s.size:=by
 cases h with
 | plain _=>exact hi
 | esc h1 _=>exact pkb_lt (s:=s) (i:=i) (by rw [h1];decide)
theorem It.le {s:ByteArray} {i j:Nat} {v u:Int} {r:Bool} (h:It s i j v u r):j≤s.size:=by
 cases h with
 | one h1 _=>exact h1.le
 | range _ _ h3=>exact h3.le
theorem ItF.le {s:ByteArray} {i j:Nat} (h:ItF s i j) (hi:i≤s.size):j≤s.size:=by
 cases h with
 | one h1=>exact h1.le hi
 | range _ h2 h3=>exact h3.le (pkb_lt (s:=s) (by rw [h2];decide))
end Pure
theorem escape_ok (g i:Nat) (s:ByteArray) (vp:Value) (d:Bool) (v:Int) (w:World) (h:Rb w g s i vp d) (hi:i≤100000) (h92:Pure.pkb s i=92) (hv:Pure.Esc (Pure.pkb s (i+1)) v) :
  Calls Tryz.prog 172 #[.pointer (some ⟨g,0,none⟩)] w (RetRb (.tuple #[.int .i64 v,.bool true]) g s (i+2) vp d w):=by
 have TK:=hide (take_any g i s vp d 92 w h (by omega))
 rw [if_pos h92,decide_eq_true h92] at TK
 have PK:=hide (fun w1 (h1:Rb w1 g s (i+1) vp d)=>peek_any g (i+1) s vp d w1 h1)
 clear h h92
 have wi:IntKind.i64.wrap (((i+1:Nat):Int)+1)=((i+2:Nat):Int):=by rw [wrap_in _ (by omega) (by omega)];omega
 unfold Pure.Esc at hv
 generalize Pure.pkb s (i+1)=p at *
 rcases hv with ⟨h | h | h | h | h | h | h | h | h | h | h | h,e⟩ | ⟨h,e⟩ | ⟨h,e⟩
 all_goals
  subst h e;go_enter Tryz.func172,Tryz.ntmps172
  go_wp2_with fail
  refine TK.out.mono ?_
  rintro e w1 ⟨rfl,hg1,h1⟩;have G1:=hide hg1;have P1:=hide (PK.out w1 h1);have H1:=hide h1;clear hg1 h1
  go_wp2_with fail
  refine P1.out.mono ?_
  clear P1;rintro e w2 ⟨rfl,hb2⟩;have H2:=hide (H1.out.below hb2);have G2:=hide (G1.out.trans (grown_bel (some g) hb2));clear hb2 G1 H1;have c1:=bc_ 1 H2.out rfl;have f1:=blk_frozen H2.out 1;have N1:=hide (H2.out.at (i+2));go_wp2
  go_ret2
  exact⟨rfl,G2.out.trans (Lib.grownBy_setCell _ g 1 _),N1.out⟩
theorem escape_no (g i:Nat) (s:ByteArray) (vp:Value) (d:Bool) (w:World) (h:Rb w g s i vp d) (hi:i≤100000) (h92:Pure.pkb s i=92) (hv:¬Pure.EscOK (Pure.pkb s (i+1))) :
  Calls Tryz.prog 172 #[.pointer (some ⟨g,0,none⟩)] w (RetRb (.tuple #[.int .i64 0,.bool false]) g s (i+1) vp d w):=by
 have TK:=hide (take_any g i s vp d 92 w h (by omega))
 rw [if_pos h92,decide_eq_true h92] at TK
 have PK:=hide (fun w1 (h1:Rb w1 g s (i+1) vp d)=>peek_any g (i+1) s vp d w1 h1)
 clear h h92
 unfold Pure.EscOK at hv
 generalize Pure.pkb s (i+1)=p at *
 have n1:(p == 40)=false:=by simp;omega
 have n2:(p == 41)=false:=by simp;omega
 have n3:(p == 91)=false:=by simp;omega
 have n4:(p == 93)=false:=by simp;omega
 have n5:(p == 42)=false:=by simp;omega
 have n6:(p == 43)=false:=by simp;omega
 have n7:(p == 63)=false:=by simp;omega
 have n8:(p == 124)=false:=by simp;omega
 have n9:(p == 46)=false:=by simp;omega
 have n10:(p == 92)=false:=by simp;omega
 have n11:(p == 45)=false:=by simp;omega
 have n12:(p == 94)=false:=by simp;omega
 have n13:(p == 110)=false:=by simp;omega
 have n14:(p == 115)=false:=by simp;omega
 go_enter Tryz.func172,Tryz.ntmps172
 go_wp2_with fail
 refine TK.out.mono ?_
 rintro e w1 ⟨rfl,hg1,h1⟩
 have G1:=hide hg1
 have P1:=hide (PK.out w1 h1)
 have H1:=hide h1
 clear hg1 h1
 go_wp2_with fail
 refine P1.out.mono ?_
 clear P1
 rintro e w2 ⟨rfl,hb2⟩
 have H2:=hide (H1.out.below hb2)
 have G2:=hide (G1.out.trans (grown_bel (some g) hb2))
 clear hb2 G1 H1
 go_wp2
 go_ret2
 exact⟨rfl,G2.out,H2.out⟩
def RetSg (g:Nat) (s:ByteArray) (i:Nat) (vp:Value) (d:Bool) (w:World) (e:Ending) (w':World):Prop:=
 (∃j v,Pure.Sg s i j v∧RetRb (.tuple #[.int .i64 v,.bool true]) g s j vp d w e w')∨(∃j,Pure.SgF s i j∧RetRb (.tuple #[.int .i64 0,.bool false]) g s j vp d w e w')
theorem sign_any (g i:Nat) (s:ByteArray) (vp:Value) (d:Bool) (w:World) (h:Rb w g s i vp d) (hi:i≤s.size) (hs:s.size≤1000) :
  Calls Tryz.prog 175 #[.pointer (some ⟨g,0,none⟩)] w (RetSg g s i vp d w):=by
 have PK:=hide (peek_any g i s vp d w h)
 have H0:=hide h
 have wi:IntKind.i64.wrap ((i:Int)+1)=((i+1:Nat):Int):=by rw [wrap_in _ (by omega) (by omega)];omega
 by_cases hn:Pure.pkb s i=93∨Pure.pkb s i=45∨Pure.pkb s i=32∨Pure.pkb s i=10∨Pure.pkb s i=-1
 ·have FIN:Hid (∀e w',RetRb (.tuple #[.int .i64 0,.bool false]) g s i vp d w e w'→RetSg g s i vp d w e w'):=fun e w' k=>.inr ⟨i,.plain hn,k⟩
  clear h;generalize Pure.pkb s i=p at *;rcases hn with h | h | h | h | h
  all_goals
   subst h;go_enter Tryz.func175,Tryz.ntmps175
   go_wp2_with fail
   refine PK.out.mono ?_
   clear PK;rintro e w1 ⟨rfl,hb1⟩;have H1:=hide (H0.out.below hb1);have G1:=hide (grown_bel (some g) hb1);clear hb1 H0;go_wp2
   go_ret2
   exact FIN.out _ _ ⟨rfl,G1.out,H1.out⟩
 ·by_cases h92:Pure.pkb s i=92
  ·have hlt:=Pure.pkb_lt (s:=s) (i:=i) (by rw [h92];decide)
   rw [h92] at PK;by_cases hk:Pure.EscOK (Pure.pkb s (i+1))
   ·obtain⟨v,hv⟩:=hk.esc
    have ES:=hide (fun w1 (h1:Rb w1 g s i vp d)=>escape_ok g i s vp d v w1 h1 (by omega) h92 hv);have FIN:Hid (∀e w',RetRb (.tuple #[.int .i64 v,.bool true]) g s (i+2) vp d w e w'→RetSg g s i vp d w e w'):=fun e w' k=>.inl ⟨i+2,v,.esc h92 hv,k⟩
    clear h hn h92 hk hv;go_enter Tryz.func175,Tryz.ntmps175
    go_wp2_with fail
    refine PK.out.mono ?_
    clear PK;rintro e w1 ⟨rfl,hb1⟩;have E1:=hide (ES.out w1 (H0.out.below hb1));have G1:=hide (grown_bel (some g) hb1);clear hb1 H0 ES
    go_wp2_with fail
    refine E1.out.mono ?_
    clear E1;rintro e w2 ⟨rfl,hg2,h2⟩;have G2:=hide (G1.out.trans hg2);have H2:=hide h2;clear hg2 h2 G1;go_wp2
    go_ret2
    exact FIN.out _ _ ⟨rfl,G2.out,H2.out⟩
   ·have ES:=hide (fun w1 (h1:Rb w1 g s i vp d)=>escape_no g i s vp d w1 h1 (by omega) h92 hk)
    have FIN:Hid (∀e w',RetRb (.tuple #[.int .i64 0,.bool false]) g s (i+1) vp d w e w'→RetSg g s i vp d w e w'):=fun e w' k=>.inr ⟨i+1,.esc h92 hk,k⟩
    clear h hn h92 hk;go_enter Tryz.func175,Tryz.ntmps175
    go_wp2_with fail
    refine PK.out.mono ?_
    clear PK;rintro e w1 ⟨rfl,hb1⟩;have E1:=hide (ES.out w1 (H0.out.below hb1));have G1:=hide (grown_bel (some g) hb1);clear hb1 H0 ES
    go_wp2_with fail
    refine E1.out.mono ?_
    clear E1;rintro e w2 ⟨rfl,hg2,h2⟩;have G2:=hide (G1.out.trans hg2);have H2:=hide h2;clear hg2 h2 G1;go_wp2
    go_ret2
    exact FIN.out _ _ ⟨rfl,G2.out,H2.out⟩
  ·have FIN:Hid (∀e w',RetRb (.tuple #[.int .i64 (Pure.pkb s i),.bool true]) g s (i+1) vp d w e w'→RetSg g s i vp d w e w'):=fun e w' k=>.inl ⟨i+1,_,.plain hn h92,k⟩
   clear h;generalize Pure.pkb s i=p at *;have n1:(p == 93)=false:=by simp;omega
   have n2:(p == 45)=false:=by simp;omega
   have n3:(p == 32)=false:=by simp;omega
   have n4:(p == 10)=false:=by simp;omega
   have n5:(p == -1)=false:=by simp;omega
   have n6:(p == 92)=false:=by simp;omega
   go_enter Tryz.func175,Tryz.ntmps175
   go_wp2_with fail
   refine PK.out.mono ?_
   clear PK;rintro e w1 ⟨rfl,hb1⟩;have H1:=hide (H0.out.below hb1);have G1:=hide (grown_bel (some g) hb1);clear hb1 H0;have c1:=bc_ 1 H1.out rfl;have f1:=blk_frozen H1.out 1;have N1:=hide (H1.out.at (i+1));go_wp2
   go_ret2
   exact FIN.out _ _ ⟨rfl,G1.out.trans (Lib.grownBy_setCell _ g 1 _),N1.out⟩
def RetIt (g:Nat) (s:ByteArray) (i:Nat) (vp:Value) (d:Bool) (w:World) (e:Ending) (w':World):Prop:=
 (∃j lo hi r,Pure.It s i j lo hi r∧RetRb (.tuple #[.int .i64 lo,.int .i64 hi,.bool true]) g s j vp (d || decide (hi<lo)) w e w')∨(∃j x y,Pure.ItF s i j∧RetRb (.tuple #[.int .i64 x,.int .i64 y,.bool false]) g s j vp d w e w')
theorem item_any (g i:Nat) (s:ByteArray) (vp:Value) (d:Bool) (w:World) (h:Rb w g s i vp d) (hi:i≤s.size) (hs:s.size≤1000) :
  Calls Tryz.prog 173 #[.pointer (some ⟨g,0,none⟩)] w (RetIt g s i vp d w):=by
 have SG:=hide (sign_any g i s vp d w h hi hs)
 clear h
 go_enter Tryz.func173,Tryz.ntmps173
 go_wp2_with fail
 refine SG.out.mono ?_
 clear SG
 rintro e w1 (⟨j,v,hsg,rfl,hg1,h1⟩ | ⟨j,hsg,rfl,hg1,h1⟩)
 ·have jl:=hsg.le
  have TK:=hide (take_any g j s vp d 45 w1 h1 (by omega));have G1:=hide hg1;have S1:=hide hsg;clear hg1 h1 hsg;by_cases h45:Pure.pkb s j=45
  ·rw [if_pos h45,decide_eq_true h45] at TK
   have hlt:=Pure.pkb_lt (s:=s) (i:=j) (by rw [h45];decide)
   go_wp2_with fail
   refine TK.out.mono ?_
   clear TK;rintro e w2 ⟨rfl,hg2,h2⟩;have SG2:=hide (sign_any g (j+1) s vp d w2 h2 (by omega) hs);have G2:=hide (G1.out.trans hg2);clear hg2 h2 G1
   go_wp2_with fail
   refine SG2.out.mono ?_
   clear SG2;rintro e w3 (⟨k,u,hsg2,rfl,hg3,h3⟩ | ⟨k,hsg2,rfl,hg3,h3⟩)
   ·have G3:=hide (G2.out.trans hg3)
    have H3:=hide h3;have IT:Hid (Pure.It s i k v u true):=.range S1.out h45 hsg2;clear hg3 h3 hsg2 G2 S1;by_cases hd:u<v
    ·have d1:decide (u<v)=true:=decide_eq_true hd
     have f3:=blk_frozen H3.out 3;have c3:=bc_ 3 H3.out rfl;have N1:=hide H3.out.down;go_wp2;go_ret3;exact .inl ⟨k,v,u,true,IT.out,rfl,G3.out.trans (Lib.grownBy_setCell _ g 3 _),by rw [d1,Bool.or_true];exact N1.out⟩
    ·have d1:decide (u<v)=false:=decide_eq_false hd
     go_wp2;go_ret3;exact .inl ⟨k,v,u,true,IT.out,rfl,G3.out,by rw [d1,Bool.or_false];exact H3.out⟩
   ·have G3:=hide (G2.out.trans hg3)
    have H3:=hide h3;have IT:Hid (Pure.ItF s i k):=.range S1.out h45 hsg2;clear hg3 h3 hsg2 G2 S1;go_wp2;go_ret3;exact .inr ⟨k,v,0,IT.out,rfl,G3.out,H3.out⟩
  ·rw [if_neg h45,decide_eq_false h45] at TK
   have IT:Hid (Pure.It s i j v v false):=.one S1.out h45;clear h45 S1
   go_wp2_with fail
   refine TK.out.mono ?_
   clear TK;rintro e w2 ⟨rfl,hg2,h2⟩;have G2:=hide (G1.out.trans hg2);have H2:=hide h2;clear hg2 h2 G1;go_wp2;go_ret3;exact .inl ⟨j,v,v,false,IT.out,rfl,G2.out,by simpa using H2.out⟩
 ·have G1:=hide hg1
  have H1:=hide h1;have IT:Hid (Pure.ItF s i j):=.one hsg;clear hg1 h1 hsg;go_wp2;go_ret3;exact .inr ⟨j,0,0,IT.out,rfl,G1.out,H1.out⟩
end Go.Proofs.YtmccnmgaoppogaaGreat
