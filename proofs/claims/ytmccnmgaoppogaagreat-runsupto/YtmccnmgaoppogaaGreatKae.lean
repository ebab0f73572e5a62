import Derived.Test.YtmccnmgaoppogaaGreatKad
import Derived.Lib.BufferOwn
import Derived.OwnWalk
import Derived.Great.BuildSlice
import Derived.Deep.RegionLaw
namespace Go.Proofs.YtmccnmgaoppogaaGreat
open Pu
set_option linter.all false
set_option maxRecDepth 100000
set_option maxHeartbeats 8000000
open Go.RowKit
variable {W w:W_} {v:V_} {base g n size t:Nat} {xs ys:List V_} {qs:List (Pu.aJ × V_)}
def rdC (s:Y_) (i:Nat) (vp:V_) (d:Bool):List V_:=[.string s,I_ i,vp,.bool d]
def Rb (W:W_) (g:Nat) (s:Y_) (i:Nat) (vp:V_) (d:Bool):Prop:=dh W g 184 (rdC s i vp d)
theorem jK {w':W_} (g:Option Nat) (hb:B_ w w'):w.grownBy w' g:=⟨hb.os,hb.tape,hb.output,hb.size,fun k hk _=>hb.block k hk⟩
section
variable {W W':W_} {g i:Nat} {s:Y_} {vp:V_} {d:Bool}
theorem Rb.lt (h:Rb W g s i vp d):g<W.heap.size:=bO h
theorem Rb.below (h:Rb W g s i vp d) (hb:B_ W W'):Rb W' g s i vp d:=bN h hb (bO h)
theorem Rb.at (h:Rb W g s i vp d) (j:Nat):Rb (W.setCell (a_ g 1) (I_ j)) g s j vp d:=cO h 1 _
theorem Rb.down (h:Rb W g s i vp d):Rb (W.setCell (a_ g 3) (.bool true)) g s i vp true:=cO h 3 _
end
theorem lJ (g i:Nat) (s:Y_) (vp:V_) (d:Bool) (w:W_) (h:Rb w g s i vp d) :
  C_ 142 #[p_ g] w (mW (I_ (Pu.dG s i)) w):=by
 have c0:=bP 0 h rfl;have c1:=bP 1 h rfl;clear h;go_enter Tryz.func142,Tryz.ntmps142;by_cases hl:i<s.size
 .have d1:decide ((s.size:Int)<=i)=false:=dn_ (by omega);have x0:=fun w=>dU s (i:Int) i rfl (by omega) w
  have j0:=jg i;have j1:(i:Int)<s.size:=by omega
  have hb:=iC s i;rw [lK hl];generalize bt s i=b at *
  go_wp2_with fail
  go_quiet (fail)
  go_wp2_with fail
  go_quiet (fail);go_wp2;go_ret;exact⟨rfl,bd_ (bd_ (Br_ _ _) _) _⟩
 .have d1:decide ((s.size:Int)<=i)=true:=dt_ (by omega);rw [acC (by omega)]
  go_wp2_with fail
  go_quiet (fail);go_wp2;go_ret;exact⟨rfl,bd_ (Br_ _ _) _⟩
def jR (v:V_) (g:Nat) (s:Y_) (j:Nat) (vp:V_) (d:Bool) (w:W_) (e:Ending) (w':W_):Prop:=
 e=.returned v/\w.grownBy w' (some g)/\Rb w' g s j vp d
theorem oq (g i:Nat) (s:Y_) (vp:V_) (d:Bool) (b:Int) (w:W_) (h:Rb w g s i vp d) (hi:i<=1000000) :
  C_ 115 #[p_ g,I_ b] w (jR (.bool (decide (Pu.dG s i=b))) g s (if Pu.dG s i=b then i+1 else i) vp d w):=by
 have PK:=bK (lJ g i s vp d w h);have H0:=bK h;clear h;by_cases hp:Pu.dG s i=b
 focus
  rw [if_pos hp,dt_ hp];rw [hp] at PK;clear hp
 rotate_left
 focus
  rw [if_neg hp,dn_ hp];generalize Pu.dG s i=p at *;have n2:(p != b)=true:=by simpa using hp
 rotate_left
 all_goals
  go_enter Tryz.func115,Tryz.ntmps115
  go_wp2_with fail
  refine PK.o.mono ?_
  clear PK;rintro e w1 ⟨rfl,hb1⟩;have H1:=bK (H0.o.below hb1);have G1:=bK (jK (some g) hb1);clear hb1 H0
 .have c1:=bP 1 H1.o rfl;have f1:=bL H1.o 1;have wi:=kg i;have N1:=bK (H1.o.at (i+1));go_wp2;go_ret;exact⟨rfl,G1.o.trans (gs_ _ g 1 _),N1.o⟩
 .go_wp2;go_ret;exact⟨rfl,G1.o,H1.o⟩
namespace Pu
theorem gu.ne {b:Int} (h:gu b):b≠-1:=by unfold gu at h;omega
theorem gu.wP {b:Int} (h:gu b):∃v,OL b v:=by
 unfold gu at h;unfold OL;rcases h with h | h | h
 .exact⟨b,.inl ⟨h,rfl⟩⟩
 .exact⟨10,.inr (.inl ⟨h,rfl⟩)⟩
 .exact⟨32,.inr (.inr ⟨h,rfl⟩)⟩
theorem Sg.le {s:Y_} {i j:Nat} {v:Int} (h:Sg s i j v):j<=s.size:=by
 cases h with
 | plain h1 _=>exact fB (fun e=>h1 (.inr (.inr (.inr (.inr e)))))
 | wP _ h2=>exact fB (h2.ok.ne)
theorem ay.le {s:Y_} {i j:Nat} {v u:Int} {r:Bool} (h:ay s i j v u r):j<=s.size:=by
 cases h with
 | one h1 _=>exact h1.le
 | range _ _ h3=>exact h3.le
end Pu
theorem Ie (g i:Nat) (s:Y_) (vp:V_) (d:Bool) (v:Int) (w:W_) (h:Rb w g s i vp d) (hi:i<=100000) (ui:Pu.dG s i=92) (hv:OL (Pu.dG s (i+1)) v) :
  C_ 172 #[p_ g] w (jR (.tuple #[I_ v,.bool true]) g s (i+2) vp d w):=by
 have TK:=bK (oq g i s vp d 92 w h (by omega));rw [if_pos ui,dt_ ui] at TK;have PK:=bK (fun w1 (h1:Rb w1 g s (i+1) vp d)=>lJ g (i+1) s vp d w1 h1);clear h ui;have wi:IntKind.i64.wrap (((i+1:Nat):Int)+1)=((i+2:Nat):Int):=by rw [oG _ (by omega) (by omega)];omega
 unfold OL at hv;generalize Pu.dG s (i+1)=p at *;rcases hv with ⟨h | h | h | h | h | h | h | h | h | h | h | h,e⟩ | ⟨h,e⟩ | ⟨h,e⟩
 all_goals
  subst h e;go_enter Tryz.func172,Tryz.ntmps172
  go_wp2_with fail
  refine TK.o.mono ?_
  rintro e w1 ⟨rfl,hg1,h1⟩;have G1:=bK hg1;have P1:=bK (PK.o w1 h1);have H1:=bK h1;clear hg1 h1
  go_wp2_with fail
  refine P1.o.mono ?_
  clear P1;rintro e w2 ⟨rfl,hb2⟩;have H2:=bK (H1.o.below hb2);have G2:=bK (G1.o.trans (jK (some g) hb2));clear hb2 G1 H1;have c1:=bP 1 H2.o rfl;have f1:=bL H2.o 1;have N1:=bK (H2.o.at (i+2));go_wp2
  go_ret2
  exact⟨rfl,G2.o.trans (gs_ _ g 1 _),N1.o⟩
theorem Ic (g i:Nat) (s:Y_) (vp:V_) (d:Bool) (w:W_) (h:Rb w g s i vp d) (hi:i<=100000) (ui:Pu.dG s i=92) (hv:¬gu (Pu.dG s (i+1))) :
  C_ 172 #[p_ g] w (jR (.tuple #[I_ 0,.bool false]) g s (i+1) vp d w):=by
 have TK:=bK (oq g i s vp d 92 w h (by omega));rw [if_pos ui,dt_ ui] at TK;have PK:=bK (fun w1 (h1:Rb w1 g s (i+1) vp d)=>lJ g (i+1) s vp d w1 h1);clear h ui;unfold gu at hv;generalize Pu.dG s (i+1)=p at *;have n1:(p == 40)=false:=by simp;omega
 have n2:(p == 41)=false:=by simp;omega
 have n3:(p == 91)=false:=by simp;omega
 have n4:(p == 93)=false:=by simp;omega
 have n5:(p == 42)=false:=by simp;omega
 have n6:(p == 43)=false:=by simp;omega
 have n7:(p == 63)=false:=by simp;omega
 have n8:(p == 124)=false:=by simp;omega
 have n9:(p == 46)=false:=by simp;omega
 have n10:(p == 92)=false:=by simp;omega
 have n11:(p == 45)=false:=by simp;omega
 have n12:(p == 94)=false:=by simp;omega
 have n13:(p == 110)=false:=by simp;omega
 have n14:(p == 115)=false:=by simp;omega
 go_enter Tryz.func172,Tryz.ntmps172
 go_wp2_with fail
 refine TK.o.mono ?_
 rintro e w1 ⟨rfl,hg1,h1⟩;have G1:=bK hg1;have P1:=bK (PK.o w1 h1);have H1:=bK h1;clear hg1 h1
 go_wp2_with fail
 refine P1.o.mono ?_
 clear P1;rintro e w2 ⟨rfl,hb2⟩;have H2:=bK (H1.o.below hb2);have G2:=bK (G1.o.trans (jK (some g) hb2));clear hb2 G1 H1;go_wp2
 go_ret2
 exact⟨rfl,G2.o,H2.o⟩
def KZ (g:Nat) (s:Y_) (i:Nat) (vp:V_) (d:Bool) (w:W_) (e:Ending) (w':W_):Prop:=
 (∃j v,Pu.Sg s i j v/\jR (.tuple #[I_ v,.bool true]) g s j vp d w e w')\/(∃j,Pu.SgF s i j/\jR (.tuple #[I_ 0,.bool false]) g s j vp d w e w')
theorem NW (g i:Nat) (s:Y_) (vp:V_) (d:Bool) (w:W_) (h:Rb w g s i vp d) (hi:i<=s.size) (hs:s.size<=1000) :
  C_ 175 #[p_ g] w (KZ g s i vp d w):=by
 have PK:=bK (lJ g i s vp d w h);have H0:=bK h;have wi:IntKind.i64.wrap ((i:Int)+1)=((i+1:Nat):Int):=by rw [oG _ (by omega) (by omega)];omega
 by_cases hn:Pu.dG s i=93\/Pu.dG s i=45\/Pu.dG s i=32\/Pu.dG s i=10\/Pu.dG s i=-1
 .have FIN:Hid (∀e w',jR (.tuple #[I_ 0,.bool false]) g s i vp d w e w'->KZ g s i vp d w e w'):=fun e w' k=>.inr ⟨i,.plain hn,k⟩
  clear h;generalize Pu.dG s i=p at *;rcases hn with h | h | h | h | h
  all_goals
   subst h;go_enter Tryz.func175,Tryz.ntmps175
   go_wp2_with fail
   refine PK.o.mono ?_
   clear PK;rintro e w1 ⟨rfl,hb1⟩;have H1:=bK (H0.o.below hb1);have G1:=bK (jK (some g) hb1);clear hb1 H0;go_wp2
   go_ret2
   exact FIN.o _ _ ⟨rfl,G1.o,H1.o⟩
 .by_cases ui:Pu.dG s i=92
  .have hlt:=Pu.fB (s:=s) (i:=i) (by rw [ui];decide);rw [ui] at PK;by_cases hk:gu (Pu.dG s (i+1))
   focus
    obtain⟨v,hv⟩:=hk.wP;have ES:=bK (fun w1 (h1:Rb w1 g s i vp d)=>Ie g i s vp d v w1 h1 (by omega) ui hv);have FIN:Hid (∀e w',jR (.tuple #[I_ v,.bool true]) g s (i+2) vp d w e w'->KZ g s i vp d w e w'):=fun e w' k=>.inl ⟨i+2,v,.wP ui hv,k⟩
    clear h hn ui hk hv
   rotate_left
   focus
    have ES:=bK (fun w1 (h1:Rb w1 g s i vp d)=>Ic g i s vp d w1 h1 (by omega) ui hk);have FIN:Hid (∀e w',jR (.tuple #[I_ 0,.bool false]) g s (i+1) vp d w e w'->KZ g s i vp d w e w'):=fun e w' k=>.inr ⟨i+1,.wP ui hk,k⟩
    clear h hn ui hk
   all_goals
    go_enter Tryz.func175,Tryz.ntmps175
    go_wp2_with fail
    refine PK.o.mono ?_
    clear PK;rintro e w1 ⟨rfl,hb1⟩;have E1:=bK (ES.o w1 (H0.o.below hb1));have G1:=bK (jK (some g) hb1);clear hb1 H0 ES
    go_wp2_with fail
    refine E1.o.mono ?_
    clear E1;rintro e w2 ⟨rfl,hg2,h2⟩;have G2:=bK (G1.o.trans hg2);have H2:=bK h2;clear hg2 h2 G1;go_wp2
    go_ret2
    exact FIN.o _ _ ⟨rfl,G2.o,H2.o⟩
  .have FIN:Hid (∀e w',jR (.tuple #[I_ (Pu.dG s i),.bool true]) g s (i+1) vp d w e w'->KZ g s i vp d w e w'):=fun e w' k=>.inl ⟨i+1,_,.plain hn ui,k⟩
   clear h;generalize Pu.dG s i=p at *;have n1:(p == 93)=false:=by simp;omega
   have n2:(p == 45)=false:=by simp;omega
   have n3:(p == 32)=false:=by simp;omega
   have n4:(p == 10)=false:=by simp;omega
   have n5:(p == -1)=false:=by simp;omega
   have n6:(p == 92)=false:=by simp;omega
   go_enter Tryz.func175,Tryz.ntmps175
   go_wp2_with fail
   refine PK.o.mono ?_
   clear PK;rintro e w1 ⟨rfl,hb1⟩;have H1:=bK (H0.o.below hb1);have G1:=bK (jK (some g) hb1);clear hb1 H0;have c1:=bP 1 H1.o rfl;have f1:=bL H1.o 1;have N1:=bK (H1.o.at (i+1));go_wp2
   go_ret2
   exact FIN.o _ _ ⟨rfl,G1.o.trans (gs_ _ g 1 _),N1.o⟩
def af8 (g:Nat) (s:Y_) (i:Nat) (vp:V_) (d:Bool) (w:W_) (e:Ending) (w':W_):Prop:=
 (∃j lo hi r,ay s i j lo hi r/\jR (.tuple #[I_ lo,I_ hi,.bool true]) g s j vp (d || decide (hi<lo)) w e w')\/(∃j x y,Pu.ItF s i j/\jR (.tuple #[I_ x,I_ y,.bool false]) g s j vp d w e w')
theorem Y9 (g i:Nat) (s:Y_) (vp:V_) (d:Bool) (w:W_) (h:Rb w g s i vp d) (hi:i<=s.size) (hs:s.size<=1000) :
  C_ 173 #[p_ g] w (af8 g s i vp d w):=by
 have SG:=bK (NW g i s vp d w h hi hs);clear h;go_enter Tryz.func173,Tryz.ntmps173
 go_wp2_with fail
 refine SG.o.mono ?_
 clear SG;rintro e w1 (⟨j,v,hsg,rfl,hg1,h1⟩ | ⟨j,hsg,rfl,hg1,h1⟩)
 .have jl:=hsg.le;have TK:=bK (oq g j s vp d 45 w1 h1 (by omega));have G1:=bK hg1;have S1:=bK hsg;clear hg1 h1 hsg;by_cases h45:Pu.dG s j=45
  focus
   rw [if_pos h45,dt_ h45] at TK;have hlt:=Pu.fB (s:=s) (i:=j) (by rw [h45];decide)
  rotate_left
  focus
   rw [if_neg h45,dn_ h45] at TK;have IT:Hid (ay s i j v v false):=.one S1.o h45;clear h45 S1
  rotate_left
  all_goals
   go_wp2_with fail
   refine TK.o.mono ?_
   clear TK;rintro e w2 ⟨rfl,hg2,h2⟩
  .have SG2:=bK (NW g (j+1) s vp d w2 h2 (by omega) hs);have G2:=bK (G1.o.trans hg2);clear hg2 h2 G1
   go_wp2_with fail
   refine SG2.o.mono ?_
   clear SG2;rintro e w3 (⟨k,u,Mj,rfl,hg3,h3⟩ | ⟨k,Mj,rfl,hg3,h3⟩)
   .have G3:=bK (G2.o.trans hg3);have H3:=bK h3;have IT:Hid (ay s i k v u true):=.range S1.o h45 Mj;clear hg3 h3 Mj G2 S1;by_cases hd:u<v
    .have d1:decide (u<v)=true:=dt_ hd;have f3:=bL H3.o 3;have c3:=bP 3 H3.o rfl;have N1:=bK H3.o.down;go_wp2;go_ret3;exact .inl ⟨k,v,u,true,IT.o,rfl,G3.o.trans (gs_ _ g 3 _),by rw [d1,Bool.or_true];exact N1.o⟩
    .have d1:decide (u<v)=false:=dn_ hd;go_wp2;go_ret3;exact .inl ⟨k,v,u,true,IT.o,rfl,G3.o,by rw [d1,Bool.or_false];exact H3.o⟩
   .have G3:=bK (G2.o.trans hg3);have H3:=bK h3;have IT:Hid (Pu.ItF s i k):=.range S1.o h45 Mj;clear hg3 h3 Mj G2 S1;go_wp2;go_ret3;exact .inr ⟨k,v,0,IT.o,rfl,G3.o,H3.o⟩
  .have G2:=bK (G1.o.trans hg2);have H2:=bK h2;clear hg2 h2 G1;go_wp2;go_ret3;exact .inl ⟨j,v,v,false,IT.o,rfl,G2.o,by simpa using H2.o⟩
 .have G1:=bK hg1;have H1:=bK h1;have IT:Hid (Pu.ItF s i j):=.one hsg;clear hg1 h1 hsg;go_wp2;go_ret3;exact .inr ⟨j,0,0,IT.o,rfl,G1.o,H1.o⟩
structure Rk (B:Nat) (w w':W_):Prop where
 lo:Below B w w'
 jy:∀(k:Nat) (cs:Array V_) (t:TypeId) (fr:Nat × Nat),w.heap[k]?=some (c_ cs t fr)->t≠184->t≠235->w'.heap[k]?=some (c_ cs t fr)
section
variable {B:Nat} {w w' w'':W_}
theorem Rk.refl (B:Nat) (w:W_):Rk B w w:=⟨Br_ _ _,fun _ _ _ _ h _ _=>h⟩
theorem Rk.trans (h:Rk B w w') (h':Rk B w' w''):Rk B w w'':=⟨h.lo.trans h'.lo,fun k cs t fr hk h1 h2=>h'.jy k cs t fr (h.jy k cs t fr hk h1 h2) h1 h2⟩
theorem Rk.below (hB:B<=w.heap.size) (h:B_ w w'):Rk B w w':=⟨h.mono hB,fun k cs t fr hk _ _=>by
 have hl:=(Array.getElem?_eq_some_iff.1 hk).1;rw [h.block k hl]
 exact hk⟩
theorem Rk.alloc (hB:B<=w.heap.size) (o:Obj):Rk B w (w.alloc o):=.below hB (mi o)
theorem Rk.grown {g t0:Nat} {xs:List V_} (hb:dh w g t0 xs) (hg:B<=g) (ht:t0=184\/t0=235) (h:w.grownBy w' (some g)):Rk B w w':=by
 refine⟨(Br_ _ _).grown h (by have:=bO hb;omega) (fun k e=>by cases e;exact hg),fun k cs t fr hk h1 h2=>?_⟩;have hl:=(Array.getElem?_eq_some_iff.1 hk).1
 rw [h.block k hl (fun e=>by
  cases e
  unfold dh at hb;rw [hb] at hk;cases hk;rcases ht with ht | ht
  .exact h1 ht
  .exact h2 ht)]
 exact hk
theorem Rk.row (ho:w.ownsRow B 235 size v n xs) (hB:B<=w.heap.size) (h:w.grownBy w' v.ownBlock):Rk B w w':=by
 refine⟨(Br_ _ _).grown h hB (fun k hk=>(ol_ ho k hk).1),fun k cs t fr hk h1 h2=>?_⟩;have hl:=(Array.getElem?_eq_some_iff.1 hk).1
 rw [h.block k hl (fun e=>by
  rcases ho.2 with ⟨rfl,_⟩ | ⟨g,cap,cur,rfl,_,h4,_⟩
  .cases e
  .cases e
   rw [h4] at hk;cases hk
   exact h2 rfl)]
 exact hk
theorem Rk.fA (h:Rk B w w') (hb:dh w g t xs) (h1:t≠184) (h2:t≠235):dh w' g t xs:=h.jy g _ t _ hb h1 h2
theorem Rk.jF {l:List Nat} (h:Rk B w w') (hn:ed w v l):ed w' v l:=by
 refine⟨hn.1,?_⟩;rcases hn.2 with h0 | ⟨g,cap,cur,h1,h2,h3,h4⟩
 .exact .inl h0
 .exact .inr ⟨g,cap,cur,h1,h2,h.jy g _ _ _ h3 (by decide) (by decide),h4⟩
end
def Tz (qs:List (Pu.aJ × V_)):List V_:=qs.flatMap (fun q=>cK q.1.takes++[q.2])
theorem rY (q:Pu.aJ × V_) (r:List (Pu.aJ × V_)):Tz (q::r)=(cK q.1.takes++[q.2])++Tz r:=rfl
theorem Qu (a b:List (Pu.aJ × V_)):Tz (a++b)=Tz a++Tz b:=by simp [Tz]
theorem qU (q:Pu.aJ × V_):(cK q.1.takes++[q.2]).length=257:=by rw [la_,bZ];rfl
theorem E5 {p:Nat} {q:Pu.aJ × V_} (h:qs[p]?=some q):(Tz qs)[p*257+256]?=some q.2:=by
 induction qs generalizing p with
 | nil=>simp at h
 | cons z r ih=>
  rw [rY]
  cases p with
  | zero=>rw [List.getElem?_cons_zero] at h;cases h;rw [Nat.zero_mul,Nat.zero_add,al_ (by rw [qU];omega),ar_ (by rw [bZ];omega),bZ];rfl
  | succ p=>rw [cs_] at h;rw [ar_ (by rw [qU];omega),qU,show (p+1)*257+256-257=p*257+256 by omega];exact ih h
theorem ZV {p b:Nat} {q:Pu.aJ × V_} (h:qs[p]?=some q) (hb:b<256):(Tz qs)[p*257+b]?=some (.bool (q.1.takes b)):=by
 induction qs generalizing p with
 | nil=>simp at h
 | cons z r ih=>
  rw [rY]
  cases p with
  | zero=>rw [List.getElem?_cons_zero] at h;cases h;rw [Nat.zero_mul,Nat.zero_add,al_ (by rw [qU];omega),al_ (by rw [bZ];exact hb)];exact gD _ hb
  | succ p=>rw [cs_] at h;rw [ar_ (by rw [qU];omega),qU,show (p+1)*257+b-257=p*257+b by omega];exact ih h
theorem acD {p:Nat} {q:Pu.aJ × V_} (h:qs[p]?=some q) (v:V_) (nx:List Nat):(Tz qs).set (p*257+256) v=Tz (qs.set p ({ q.1 with next:=nx },v)):=by
 induction qs generalizing p with
 | nil=>simp at h
 | cons z r ih=>
  cases p with
  | zero=>rw [List.getElem?_cons_zero] at h;cases h;rw [sz_,rY,rY,Nat.zero_mul,Nat.zero_add,List.set_append_left _ _ (by rw [qU];omega),List.set_append_right _ _ (by rw [bZ];omega),bZ];rfl
  | succ p=>rw [cs_] at h;rw [ss_,rY,rY,List.set_append_right _ _ (by rw [qU];omega),qU,show (p+1)*257+256-257=p*257+256 by omega,ih h]
theorem dA {w':W_} {e:Nat} (h:w.ownsRow base e size v n xs) (hb:dh w g t ys) (ht:t≠e) (hg:w.grownBy w' (some g)):w'.ownsRow base e size v n xs:=by
 refine⟨h.1,?_⟩;rcases h.2 with h0 | ⟨g',cap,cur,h1,h2,h3,h4⟩
 .exact .inl h0
 .refine .inr ⟨g',cap,cur,h1,h2,?_,h4⟩;have hl:=(Array.getElem?_eq_some_iff.1 h3).1
  rw [hg.block g' hl (fun e=>by
   cases e
   unfold dh at hb;rw [hb] at h3;cases h3
   exact ht rfl)]
  exact h3
structure Rd (B g:Nat) (s:Y_) (i:Nat) (ps:List Pu.aJ) (d:Bool) (vp:V_) (qs:List (Pu.aJ × V_)) (W:W_):Prop where
 rb:Rb W g s i vp d
 up:B<=g
 own:W.ownsRow B 235 257 vp qs.length (Tz qs)
 ps:qs.map (·.1)=ps
 nx:∀q∈qs,ed W q.2 q.1.next
section
variable {B g i:Nat} {s:Y_} {ps:List Pu.aJ} {d:Bool} {vp:V_} {qs:List (Pu.aJ × V_)} {W W':W_}
theorem Rd.lt (h:Rd B g s i ps d vp qs W):B<=W.heap.size:=by have:=h.rb.lt;have:=h.up;omega
theorem Rd.len (h:Rd B g s i ps d vp qs W):qs.length=ps.length:=by rw [<-h.ps,lm_]
theorem Rd.below (h:Rd B g s i ps d vp qs W) (hb:B_ W W'):Rd B g s i ps d vp qs W':=
 ⟨h.rb.below hb,h.up,bU h.own hb di,h.ps,fun q hq=>(h.nx q hq).below hb⟩
theorem dI {l:List Nat} {t0:Nat} (hn:ed W v l) (hb:dh W g t0 xs) (ht:t0≠3) (hg:W.grownBy W' (some g)):ed W' v l:=dA hn hb ht hg
theorem Rd.eP {j:Nat} {d':Bool} (h:Rd B g s i ps d vp qs W) (hg:W.grownBy W' (some g)) (hr:Rb W' g s j vp d'):Rd B g s j ps d' vp qs W':=
 ⟨hr,h.up,dA h.own h.rb (by decide) hg,h.ps,fun q hq=>dI (h.nx q hq) h.rb (by decide) hg⟩
theorem Rd.rk (h:Rd B g s i ps d vp qs W) (hg:W.grownBy W' (some g)):Rk B W W':=.grown h.rb h.up (.inl rfl) hg
end
theorem UQ (c:List V_):∀(pre post:List V_),c.length<=post.length->(c.zipIdx pre.length).foldl (fun cs x=>Array.setIfInBounds cs (0+x.2) x.1) (pre++post).toArray=(pre++c++post.drop c.length).toArray:=by
 induction c with
 | nil=>intro pre post _;simp
 | cons x c ih=>
  intro pre post h
  cases post with
  | nil=>simp at h
  | cons y post=>
   have e:Array.setIfInBounds (pre++y::post).toArray (0+pre.length) x=((pre++[x])++post).toArray:=by rw [Nat.zero_add,sb_,List.set_append_right _ _ di,Nat.sub_self];simp
   rw [List.zipIdx_cons,List.foldl_cons,e];have:=ih (pre++[x]) post (by simpa using h);rw [la_,List.length_singleton] at this;rw [this];simp
theorem uz (place:Nat->Option (Nat × Nat)) (c z:List V_) (hp:place 0=some (0,c.length)) (hl:c.length<=z.length):Instr.fill place z.toArray [(0,.agg c.toArray)]=some (c++z.drop c.length).toArray:=by have h:=UQ c [] z hl;simp only [List.nil_append,ln_] at h;unfold Instr.fill;rw [hp];simp only [Value.cells,List.size_toArray];rw [if_neg (by simp;omega)];unfold Instr.fill;rw [<-h];simp
theorem ru (n:Nat) (f:Nat->V_):(Array.range n).map f=((List.range n).map f).toArray:=by apply Array.ext';simp [Array.toList_range]
theorem E8:(Tryz.prog.info? 235).map (fun i=>(i.zero,i.size,i.bytes))=some (some (.agg (List.replicate 256 (Value.bool false)++[n_]).toArray),257,280):=by kernel_rfl
theorem Nu (T:Nat->Bool):Tryz.prog.built 235 [(0,.agg (cK T).toArray)]=some (cK T++[n_]).toArray:=by
 obtain⟨ip,h1,h2,h3,h4⟩:=ip_ E8
 obtain⟨ib,b1,b2⟩:∃i,Tryz.prog.info? 233 = some i/\i.size=256:=by
  have:=jZ
  cases h:Tryz.prog.info? 233 with
  | none=>rw [h] at this;cases this
  | some i=>rw [h] at this;exact⟨i,rfl,by simpa using this⟩
 obtain⟨il,l1,l2⟩:∃i,Tryz.prog.info? 31 = some i/\i.size=1:=by
  have:(Tryz.prog.info? 31).map (·.size)=some 1:=by kernel_rfl
  cases h:Tryz.prog.info? 31 with
  | none=>rw [h] at this;cases this
  | some i=>rw [h] at this;exact⟨i,rfl,by simpa using this⟩
 unfold Program.built;rw [h1,Tryz.underlying235];simp only [h2,List.mapM_cons,List.mapM_nil,b1,l1,b2,l2,Option.map_some,Option.bind_eq_bind,Option.bind_some,Option.pure_def,Value.cells];have:=uz (fun x=>#[(0,256),(256,1)][x]?) (cK T) (List.replicate 256 (Value.bool false)++[n_]) (by rw [bZ];rfl) (by rw [bZ,la_,lp_];omega);rw [bZ,List.drop_append_of_le_length (by rw [lp_];omega),List.drop_of_length_le (by rw [lp_];omega),List.nil_append] at this;exact this
theorem Qw (T:Nat->Bool):Instr.fill (fun i=>some (i*257,257)) ((Array.range (1*257)).map fun x=>((Value.agg (List.replicate 256 (Value.bool false)++[n_]).toArray).cells)[x % (Value.agg (List.replicate 256 (Value.bool false)++[n_]).toArray).cells.size]!) [(0,.agg (cK T++[n_]).toArray)]=some (cK T++[n_]).toArray:=by
 rw [ru];have hl:(cK T++[n_]).length=257:=by rw [la_,bZ];rfl
 have:=uz (fun i=>some (i*257,257)) (cK T++[n_]) ((List.range (1*257)).map fun x=>((Value.agg (List.replicate 256 (Value.bool false)++[n_]).toArray).cells)[x % (Value.agg (List.replicate 256 (Value.bool false)++[n_]).toArray).cells.size]!) (by rw [hl]) (by rw [hl,lm_,List.length_range];omega);rw [hl,List.drop_of_length_le (by rw [lm_,List.length_range];omega),List.append_nil] at this;exact this
theorem Cx {P:Program} {ops:Array Oper} {S:W_->Prop} {op:Oper} {a:Act} (hw:Region.wanted op (yielded ops a.tmps)=true) (t:TypeId) (i:Nat) (x:Operand) (v:V_) (ho:op.op=.build t #[(i,x)]) (hx:a.eval x=v) (cells:Array V_) (hf:P.built t [(i,v)]=some cells):YieldsIf P ops S op (.agg cells) a:=
 .inl ⟨hw,fun w _=>by
  subst hx;have h:=run_build (P:=P) w t #[(i,a.eval x)] cells hf;unfold execOp;simp only [ho,Sem.run_bind,List.map_toArray,List.map_cons,List.map_nil];rw [h]
  rfl⟩
theorem eQ {P:Program} {o:Oper} {a:Act} {K:Act->W_->Prop} {Q:Exit->Act->W_->Prop} (t e:TypeId) (i:Nat) (x:Operand) (v:V_) (ho:o.op=.buildSlice t 1 #[(i,x)]) (hx:a.eval x=v)
  (cells:Array V_) (ie:TypeInfo) (z:V_) (size:Nat)
  (hu:P.underlying t=some (.slice e)) (hie:P.info? e=some ie) (hz:ie.zero=some z) (hs:ie.size=size) (hsmall:¬1*size > 2 ^ 24) (hpos:¬1*size=0)
  (hf:Instr.fill (fun i=>some (i*size,size)) ((Array.range (1*size)).map (z.cells[· % z.cells.size]!)) [(i,v)]=some cells)
  (h:K (a.put o.dst (s_ w.heap.size 1 1)) (w.alloc (c_ cells e))):o.wp P a w K Q:=by
 subst hx hs;exact wp_buildSlice t e 1 #[(i,x)] ho cells ie z hu hie hz hsmall hpos (by simpa using hf) h
theorem Qv (q:Pu.aJ × V_):Tz [q]=cK q.1.takes++[q.2]:=by rw [rY];exact List.append_nil _
theorem acw (T:Nat->Bool):(cK T++[n_]).length=1*257:=by rw [la_,bZ];rfl
theorem VM (T:Nat->Bool):∀u∈cK T++[n_],u.oneCell'=true:=by
 intro u hu;rcases ma_.1 hu with h | h
 .exact qj T u h
 .simp at h;subst h;rfl
theorem dD {g' t':Nat} (h:dh w g t xs) (h':dh w g' t' ys) (ht:t≠t'):g≠g':=by
 intro e;subst e;unfold dh at h h';rw [h] at h';cases h'
 exact ht rfl
theorem dR {W':W_} {e:Nat} (h:W.ownsRow base e size v n xs) (hb:dh W g t ys) (ht:t≠e) (hg:W.grownBy W' v.ownBlock):dh W' g t ys:=by
 refine bQ hb hg (fun k=>?_);rcases h.2 with ⟨e1,_⟩ | ⟨g',cap,cur,e1,_,h4,_⟩
 .rw [e1] at k;cases k
 .rw [e1] at k;cases k
  unfold dh at hb;rw [hb] at h4;cases h4;exact ht rfl
theorem dS {e:Nat} (h:w.ownsRow base e size v n xs):∃ao cap,v=.slice ao n cap/\n<=cap/\cap<=9223372036854775807:=by
 rcases h.2 with ⟨rfl,h2⟩ | ⟨g,cap,cur,rfl,_,_,h3,h4,_⟩
 .exact⟨none,0,by rw [h2],by omega,by omega⟩
 .exact⟨_,cap,rfl,h3,h4⟩
theorem Rk.fresh {B:Nat} {w1 w2:W_} (h:Rk B w w1) (hg:w1.grownBy w2 (some g)) (h1:w.heap.size<=g) (h2:B<=w.heap.size):Rk B w w2:=by refine⟨h.lo.grown hg (lt_ h2 h.lo.size) (fun k e=>by cases e;omega),fun k cs t fr hk a b=>?_⟩;have hl:=(Array.getElem?_eq_some_iff.1 hk).1;have:=h.jy k cs t fr hk a b;rw [hg.block k (Nat.lt_of_lt_of_le hl h.lo.size) (fun e=>by cases e;omega)];exact this
theorem Rd.yV {B i g':Nat} {s:Y_} {ps:List Pu.aJ} {d:Bool} {vp:V_} {W':W_} (h:Rd B g s i ps d vp qs W) (hb:dh W g' t xs) (h1:t≠184) (h2:t≠235) (h3:t≠3) (hg:W.grownBy W' (some g')):Rd B g s i ps d vp qs W':=
 ⟨bQ h.rb hg (fun e=>dD h.rb hb (fun e=>h1 e.symm) (oi_ e)),h.up,dA h.own hb h2 hg,h.ps,fun q hq=>dI (h.nx q hq) hb h3 hg⟩
theorem nG {a b c:V_} (h:dh W g 83 [a,b,c]):(loadVar 83 (a_ g 0)).run Tryz.prog W=.ok (.agg #[a,b,c]) W:=
 run_loadVar_mid W g 0 83 [a,b,c] _ (dZ h) Tryz.underlying83 rfl (by kernel_rfl)
theorem ja {x y z:V_} (h:dh W g t [x,y,z]) (a b c:V_):dh (((W.setCell (a_ g 0) a).setCell (a_ g 1) b).setCell (a_ g 2) c) g t [a,b,c]:=cO (cO (cO h 0 a) 1 b) 2 c
theorem iP (W:W_) (g:Nat) (a b c:V_):W.grownBy (((W.setCell (a_ g 0) a).setCell (a_ g 1) b).setCell (a_ g 2) c) (some g):=
 ((gs_ W g 0 a).trans (gs_ _ g 1 b)).trans (gs_ _ g 2 c)
theorem Ng (W:W_) (n:Nat):ed (W.alloc (c_ #[I_ n] 3)) (s_ W.heap.size 1 1) [n]:=
 ⟨rfl,.inr ⟨W.heap.size,1,#[I_ n],rfl,zl_ _,hn_ W _,di,by unfold maxLen;omega,rfl,rfl⟩⟩
def KY (B g:Nat) (s:Y_) (i:Nat) (d:Bool) (r:aK × List Pu.aJ) (w:W_) (e:Ending) (w':W_):Prop:=
 ∃vf vl vp qs,e=.returned (.agg #[.bool r.1.empty,vf,vl])/\Rk B w w'/\Rd B g s i r.2 d vp qs w'/\ed w' vf r.1.first/\ed w' vl r.1.last
theorem zL (B g i:Nat) (s:Y_) (ps:List Pu.aJ) (d:Bool) (vp:V_) (qs:List (Pu.aJ × V_)) (T:Nat->Bool) (w:W_) (h:Rd B g s i ps d vp qs w) (hl:ps.length<=1000) :
  C_ 169 #[p_ g,DK T] w (KY B g s i d (Pu.vQ T ps) w):=by
 obtain⟨ip,hp,hp0,hp1,hp2⟩:=ip_ E8;obtain⟨ap,cp,rfl,o1,o2⟩:=dS h.own;have hq2:qs.length<=1000:=by rw [h.len];exact hl
 have BL:=h.lt;have H0:=bK (h.below (((Br_ w.heap.size w).alloc di (c_ (cK T).toArray 233)).alloc (by simp) (c_ #[.bool false,n_,n_] 83)));have KW:Hid (Rk B w ((w.alloc (c_ (cK T).toArray 233)).alloc (c_ #[.bool false,n_,n_] 83))):=(Rk.alloc BL _).trans (.alloc (by simp;omega) _);have TB:Hid (dh ((w.alloc (c_ (cK T).toArray 233)).alloc (c_ #[.bool false,n_,n_] 83)) w.heap.size 233 (cK T)):=dx (hn_ w _) _;have PB:Hid (dh ((w.alloc (c_ (cK T).toArray 233)).alloc (c_ #[.bool false,n_,n_] 83)) (w.heap.size+1) 83 [.bool false,n_,n_]):=by have z:=hn_ (w.alloc (c_ (cK T).toArray 233)) (c_ #[.bool false,n_,n_] 83);rw [wa_] at z;exact z
 have c2:=bP 2 H0.o.rb rfl;have LN:Hid (ps.length=qs.length):=h.len.symm;clear h;go_enter Tryz.func169,Tryz.ntmps169
 go_wp2_with fail
 generalize (w.alloc (c_ (cK T).toArray 233)).alloc (c_ #[.bool false,n_,n_] 83)=W0 at *;generalize hgt:w.heap.size=gt at *;generalize hgp:gt+1=gp at *;have bl0:=H0.o.lt;have rl:=H0.o.rb.lt;have ne1:g≠W0.heap.size:=by omega
 have yZ:W0.heap.size≠g:=by omega
 have H2:=bK (H0.o.below (((Br_ W0.heap.size W0).alloc di (c_ (cK T++[n_]).toArray 235)).drew));have K1:Hid (Rk B W0 (W0.alloc (c_ (cK T++[n_]).toArray 235)).drew):=.below bl0 (((Br_ W0.heap.size W0).alloc di _).drew);have Gj:=bK (K1.o.fA TB.o (by decide) (by decide));have S1:W0.drew.rangeAt gt 0 (cK T):=dZ (W:=W0.drew) TB.o;have S2:(W0.alloc (c_ (cK T++[n_]).toArray 235)).drew.rangeAt gt 0 (cK T):=dZ Gj.o;refine wd_ (S:=fun w'=>w'.rangeAt gt 0 (cK T)) (by kernel_rfl) S1 (fun dF=>?_);refine bW 0 ?_
 refine bW 1 ?_
 refine bW 2 ?_
 refine bW 3 ?_
 refine wpAnyH_take (i:=5) (v:=.agg (cK T).toArray) rfl (by kernel_rfl) (by kernel_rfl) (by kernel_rfl) (fun _ _ _ h=>h) (yieldsIf_load_mid (by rfl) 233 (.tmp 3) rfl gt 0 rfl (cK T) _ (fun _ hS=>hS) Tryz.underlying233 rfl (by rw [bZ];exact jZ)) (by assumption) ?_
 try simp only [Act.put]
 refine wpAnyH_take (i:=6) (v:=.agg (cK T++[n_]).toArray) rfl (by kernel_rfl) (by kernel_rfl) (by kernel_rfl) (fun _ _ _ h=>h) (Cx (by rfl) 235 0 (.tmp 16) (.agg (cK T).toArray) rfl rfl _ (Nu T)) (by assumption) ?_
 try simp only [Act.put]
 refine xY 4 7 (fun K hK=>?_) (fun K hK=>?_)
 focus
  go_simp
  refine hK.out _ _ dF (fun fV=>?_);clear hK K
  try simp only [Act.put,sb_]
  refine fq 7 (fun K hK=>?_)
 rotate_left
 focus have c2':=bM (j:=2) H2.o.rb rfl
 rotate_left
 all_goals
  refine eQ 76 235 0 (.tmp 17) (.agg (cK T++[n_]).toArray) rfl rfl (cK T++[n_]).toArray ip _ 257 Tryz.underlying76 hp hp0 hp1 (by omega) (by omega) (Qw T) ?_
 rotate_left
 focus
  refine hK.out _ _ S2 (fun fV=>?_);clear hK K
  try simp only [Act.put]
  refine fq 4 (fun K hK=>?_)
  go_simp
 rotate_left
 all_goals
  refine hK.out _ _ S2 (fun lh=>?_);clear hK K
  try simp only [Act.put,sb_]
  refine fq 8 (fun K hK=>?_);refine sa_ _ (by rfl) _ _ _ (by rfl) B 235 ip _ 257 280 Tryz.underlying76 hp hp0 hp1 hp2 (by rfl) (by omega) (.slice ap qs.length cp) qs.length (Tz qs) (by rfl) H2.o.own (a_ W0.heap.size 0) 1 1 (cK T++[n_]) (by rfl) (by rw [acw]) (World.news_of_block (cs:=(cK T++[n_]).toArray) (t:=235) (fr:=(0,0)) (hn_ _ _)) (VM T) (by omega) (by unfold maxLen;omega) (by omega) (by simp;omega) (W0.heap.size+1) (by simp) ?_
  intro g2 fE w2 dw bS jH kV;clear jH kV;have K2:=Rk.row H2.o.own (by simp;omega) bS;have kD:dh w2 g 184 (rdC s i (.slice ap qs.length cp) d):=by have:=H2.o.rb;exact dR H2.o.own this (by decide) bS
  have tb2:=K2.fA Gj.o (by decide) (by decide);have VB:=cO kD 2 (s_ g2 (qs.length+1) fE);have tb3:=dB tb2 (dD tb2 kD (by decide)) 2 (s_ g2 (qs.length+1) fE);refine hK.out _ _ (dZ tb2) (fun lq=>?_);have k5:=bP 2 kD rfl;have Ps:=bL kD 2;clear hK K
 focus try simp only [Act.put]
 rotate_left
 focus try simp only [Act.put,sb_]
 all_goals
  refine bW 9 ?_
  refine bW 10 ?_
  refine fq 11 (fun K hK=>?_)
  go_simp
  refine hK.out _ _ (dZ tb3) (fun oM=>?_);clear hK K;refine wpAnyH_done (by kernel_rfl) ?_ _;have hg3:=gs_ w2 g 2 (s_ g2 (qs.length+1) fE);have K3:Hid (Rk B w (w2.setCell (a_ g 2) (s_ g2 (qs.length+1) fE))):=(KW.o.trans (K1.o.trans K2)).trans (.grown kD H0.o.up (.inl rfl) hg3)
  have R3:Hid (Rd B g s i (Pu.vQ T ps).2 d (s_ g2 (qs.length+1) fE) (qs++[(⟨T,[]⟩,n_)]) (w2.setCell (a_ g 2) (s_ g2 (qs.length+1) fE))):=by
   refine⟨VB,H0.o.up,?_,?_,fun q hq=>?_⟩
   .have:=dA dw kD (by decide) hg3;rw [Qu,Qv,la_];exact this
   .rw [List.map_append,H0.o.ps];rfl
   .rcases ma_.1 hq with h | h
    .exact ((K1.o.trans K2).trans (.grown kD H0.o.up (.inl rfl) hg3)).jF (H0.o.nx q h)
    .simp at h;subst h;exact ed.nil _
  have PB3:Hid (dh (w2.setCell (a_ g 2) (s_ g2 (qs.length+1) fE)) gp 83 [.bool false,n_,n_]):=(K1.o.trans (K2.trans (.grown kD H0.o.up (.inl rfl) hg3))).fA PB.o (by decide) (by decide);clear lq oM kD VB tb2 tb3 k5 Ps dw bS K2 hg3 H2 Gj;generalize w2.setCell (a_ g 2) (s_ g2 (qs.length+1) fE)=W4 at *;have gpl:=bO PB3.o;have p0:=bP 0 PB3.o rfl;have p1:=bP 1 PB3.o rfl;have p2:=bP 2 PB3.o rfl;have f0:=bL PB3.o 0;have f1:=bL PB3.o 1;have f2:=bL PB3.o 2;have n1:gp≠W4.heap.size:=by omega
  have n2:W4.heap.size≠gp:=by omega
  have n3:gp≠W4.heap.size+1:=by omega
  have n4:W4.heap.size+1≠gp:=by omega
  go_wp2;have g5:=iP W4 gp (.bool false) (s_ W4.heap.size 1 1) (s_ (W4.heap.size+1) 1 1);have VQ:=ja PB3.o (.bool false) (s_ W4.heap.size 1 1) (s_ (W4.heap.size+1) 1 1);have R5:=R3.o.yV PB3.o (by decide) (by decide) (by decide) g5;have sz:(((W4.setCell (a_ gp 0) (.bool false)).setCell (a_ gp 1) (s_ W4.heap.size 1 1)).setCell (a_ gp 2) (s_ (W4.heap.size+1) 1 1)).heap.size=W4.heap.size:=by simp [World.setCell]
  have K5:=K3.o.fresh g5 (by rw [hgt];omega) (by rw [hgt];omega);generalize ((W4.setCell (a_ gp 0) (.bool false)).setCell (a_ gp 1) (s_ W4.heap.size 1 1)).setCell (a_ gp 2) (s_ (W4.heap.size+1) 1 1)=W5 at *;have b5:=((Br_ W5.heap.size W5).alloc di (c_ #[I_ qs.length] 3)).alloc (by simp) (c_ #[I_ qs.length] 3);have na:=(Ng W5 qs.length).below (mi (c_ #[I_ qs.length] 3));have nb:=Ng (W5.alloc (c_ #[I_ qs.length] 3)) qs.length;rw [wa_] at nb;rw [sz] at na nb;have ld:=nG (bN VQ b5 (bO VQ));refine br_ (v:=.agg #[.bool false,s_ W4.heap.size 1 1,s_ (W4.heap.size+1) 1 1]) (by simp [results,Tryz.results169,asAddr,ld]) rfl ?_
  refine⟨_,_,_,_,rfl,K5.trans (.below R5.lt b5),R5.below b5,?_,?_⟩
  .show ed _ _ [ps.length];rw [LN.o];exact na
  .show ed _ _ [ps.length];rw [LN.o];exact nb
end Go.Proofs.YtmccnmgaoppogaaGreat
