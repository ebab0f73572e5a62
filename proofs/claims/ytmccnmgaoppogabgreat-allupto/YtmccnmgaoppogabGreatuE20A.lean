import Derived.Test.YtmccnmgaoppogabGreatuKan
namespace Go.Proofs.YtmccnmgaoppogabGreat
open Pu
set_option linter.all false
open Go.Proofs.Tryz Tryz
set_option maxRecDepth 100000
set_option maxHeartbeats 8000000
open Go.RowKit
variable {W:W_} {cf cl g mf nl:Nat} {act em md mode:Int} {dn:Bool} {af al:Option Addr}
theorem yT{w W':W_}{f:Nat}(h:w.grownBy W (some g))(a:W.grownBy W' (some f))(l:w.heap.size<=f):w.grownBy W' (some g):=
 ⟨a.os.trans h.os,a.tape.trans h.tape,a.output.trans h.output,lt_ h.size a.size,fun k i b=>(a.block k (Nat.lt_of_lt_of_le i h.size) (fun e=>by cases e;omega)).trans (h.block k i b)⟩
theorem Gt(g i:Nat)(s:Y_)(vp:V_)(d:Bool)(w:W_)(h:Rb w g s i vp d)(z:i<=1000000) :
  C_ 140 #[p_ g] w (fun e w'=>(fP (Pu.dN s i)/\kI (.tuple #[I_ (Pu.dN s i-97),.bool true]) g s (i+1) vp d w e w')\/(¬fP (Pu.dN s i)/\kI (.tuple #[I_ 0,.bool false]) g s i vp d w e w')):=by
 have q:=bL (mK g i s vp d w h);have p:=bL h;have bd:=TD s i;clear h;generalize Pu.dN s i=b at *;have C:=yL (b-97);by_cases l:fP b
 .have f:Hid (∀e w',kI (.tuple #[I_ (b-97),.bool true]) g s (i+1) vp d w e w'->(fP b/\kI (.tuple #[I_ (b-97),.bool true]) g s (i+1) vp d w e w')\/(¬fP b/\kI (.tuple #[I_ 0,.bool false]) g s i vp d w e w')):=fun e w' k=>.inl ⟨l,k⟩;unfold fP at l;have t:decide (b-97<0)=false:=dn_ o_;have u:decide (4<=b-97)=false:=dn_ o_;clear l;go_enter func140,ntmps140;go_wp2_with fail;refine q.o.mono ?_;clear q;rintro e v ⟨rfl,a⟩;have n:=bL (p.o.below a);have r:=bL (jZ (some g) a);clear a p;have x:=bQ 1 n.o rfl;have y:=bM n.o 1;have A:=kZ i;have a:=bL (n.o.at (i+1));go_wp2;go_ret2;exact f.o _ _ ⟨rfl,r.o.trans (gs_ _ g 1 _),a.o⟩
 .have f:Hid (∀e w',kI (.tuple #[I_ 0,.bool false]) g s i vp d w e w'->(fP b/\kI (.tuple #[I_ (b-97),.bool true]) g s (i+1) vp d w e w')\/(¬fP b/\kI (.tuple #[I_ 0,.bool false]) g s i vp d w e w')):=fun e w' k=>.inr ⟨l,k⟩;unfold fP at l;cases t:decide (b-97<0) with
  | true=>?_
  | false=>?_
  clear l;rotate_left;focus
   have a:=of_decide_eq_false t;have u:decide (4<=b-97)=true:=dt_ o_;clear l a
  all_goals
   go_enter func140,ntmps140;go_wp2_with fail;refine q.o.mono ?_;clear q;rintro e v ⟨rfl,a⟩;have n:=bL (p.o.below a);have r:=bL (jZ (some g) a);clear a p;go_wp2;go_ret2;exact f.o _ _ ⟨rfl,r.o,n.o⟩
structure Bu(g:Nat)(s:Y_)(j:Nat)(vp:V_)(d:Bool)(w:W_)(gR gV:Nat)(e c m:Int)(W:W_):Prop where
 rb:Rb W g s j vp d
 gr:w.grownBy W (some g)
 r:dh W gR 48 [I_ 0,I_ 0,I_ 0]
 v:dh W gV 48 [I_ e,I_ c,I_ m]
 ap:gR≠gV/\w.heap.size<=gR/\w.heap.size<=gV
section
variable {g:Nat} {s:Y_} {j j':Nat} {vp:V_} {d d':Bool} {w:W_} {gR gV:Nat} {e c m:Int} {W W':W_}
theorem Bu.below(h:Bu g s j vp d w gR gV e c m W)(a:B_ W W'):Bu g s j vp d w gR gV e c m W':=
 ⟨h.rb.below a,Lib.grownBy_below h.gr a,bO h.r a (bP h.r),bO h.v a (bP h.v),h.ap⟩
theorem Bu.fD(h:Bu g s j vp d w gR gV e c m W)(a:W.grownBy W' (some g))(b:Rb W' g s j' vp d'):Bu g s j' vp d' w gR gV e c m W':=
 ⟨b,h.gr.trans a,bR h.r a (fun k=>dI h.r h.rb d_ (oi_ k)),bR h.v a (fun k=>dI h.v h.rb d_ (oi_ k)),h.ap⟩
theorem Bu.an1(h:Bu g s j vp d w gR gV e c m W)(x:Int):Bu g s j vp d w gR gV x c m (W.setCell (a_ gV 0) (I_ x)):=
 ⟨bU h.rb (dI h.rb h.v d_) _ _,yT h.gr (gs_ _ _ _ _) h.ap.2.2,bU h.r h.ap.1 _ _,cK h.v 0 _,h.ap⟩
theorem Bu.Yy(h:Bu g s j vp d w gR gV e c m W)(x:Int):Bu g s j vp d w gR gV e x m (W.setCell (a_ gV 1) (I_ x)):=
 ⟨bU h.rb (dI h.rb h.v d_) _ _,yT h.gr (gs_ _ _ _ _) h.ap.2.2,bU h.r h.ap.1 _ _,cK h.v 1 _,h.ap⟩
theorem Bu.zn(h:Bu g s j vp d w gR gV e c m W)(x:Int):Bu g s j vp d w gR gV e c x (W.setCell (a_ gV 2) (I_ x)):=
 ⟨bU h.rb (dI h.rb h.v d_) _ _,yT h.gr (gs_ _ _ _ _) h.ap.2.2,bU h.r h.ap.1 _ _,cK h.v 2 _,h.ap⟩
theorem Yv{a b c:V_}(h:dh W g 48 [a,b,c]):(loadVar 48 (a_ g 0)).run prog W=.ok (.agg #[a,b,c]) W:=
 run_loadVar_mid W g 0 48 [a,b,c] _ (eQ h) underlying48 rfl k_
theorem Bu.fin(h:Bu g s j vp d w gR gV e c m W):(loadVar 48 (a_ gR 0)).run prog (kG W gR (I_ e) (I_ c) (I_ m))=.ok (.agg #[I_ e,I_ c,I_ m]) (kG W gR (I_ e) (I_ c) (I_ m))/\w.grownBy (kG W gR (I_ e) (I_ c) (I_ m)) (some g)/\Rb (kG W gR (I_ e) (I_ c) (I_ m)) g s j vp d:=by have a:=jg W gR (I_ e) (I_ c) (I_ m);exact⟨Yv (jE h.r _ _ _),yT h.gr a h.ap.2.1,bR h.rb a (fun k=>dI h.rb h.r d_ (oi_ k))⟩
theorem Bu.at1(h:Bu g s j vp d w gR gV e c m W):Bu g s (j+1) vp d w gR gV e c m (W.setCell (a_ g 1) (I_ ((j:Int)+1))):=
 h.fD (gs_ _ _ _ _) (h.rb.at (j+1))
end
def zt(g:Nat)(s:Y_)(i:Nat)(vp:V_)(d:Bool)(w:W_)(e:Ending)(w':W_):Prop:=
 (∃k em c m,Pu.Act s i k em c m/\kI (.tuple #[.agg #[I_ em,I_ c,I_ m],.bool true]) g s k vp d w e w')\/(∃k em c m,QX s i k/\kI (.tuple #[.agg #[I_ em,I_ c,I_ m],.bool false]) g s k vp d w e w')
namespace Pu
theorem oF.ne{b e:Int}(h:oF b e):b≠-1:=by unfold oF at h;omega
theorem Act.le{s:Y_}{i k:Nat}{e c m:Int}(h:Act s i k e c m):k<=s.size/\i<k:=by
 cases h with
 | plain b _ _ _=>exact⟨fK b.ne,o_⟩
 | pop _ f=>exact⟨fK (s:=s) (i:=i+1) (by rw[f];decide),o_⟩
 | bH _ _ a=>exact⟨fK (s:=s) (i:=i+2) (by unfold fP at a;omega),o_⟩
 | push _ _ a=>exact⟨fK (s:=s) (i:=i+2) (by unfold fP at a;omega),o_⟩
end Pu
theorem Rc(g i:Nat)(s:Y_)(vp:V_)(d:Bool)(w:W_)(h:Rb w g s i vp d)(hi:i<=1000) :
  Calls prog 142 #[p_ g] w (zt g s i vp d w):=by
 have gl:=h.lt;have b:Hid (Bu g s i vp d w w.heap.size (w.heap.size+1) 0 0 0 ((w.alloc (c_ #[I_ 0,I_ 0,I_ 0] 48)).alloc (c_ #[I_ 0,I_ 0,I_ 0] 48))):=by have a:=((Br_ w.heap.size w).alloc dF (c_ #[I_ 0,I_ 0,I_ 0] 48)).alloc i_ (c_ #[I_ 0,I_ 0,I_ 0] 48);have f:=DJ w 48 [I_ 0,I_ 0,I_ 0] [I_ 0,I_ 0,I_ 0];exact⟨h.below a,jZ _ a,f.1,f.2,o_,dF,o_⟩
 clear h;go_in;go_wp2_with fail;generalize (w.alloc (c_ #[I_ 0,I_ 0,I_ 0] 48)).alloc (c_ #[I_ 0,I_ 0,I_ 0] 48)=Y at *;generalize w.heap.size=gR at *;generalize gR+1=gV at *;refine (mK g i s vp d Y b.o.rb).mono ?_;rintro e X ⟨rfl,a⟩;have Q:=bL (b.o.below a);clear a b;have wi:=kZ i;have wi2:=yL ((i:Int)+1+1);rcases Classical.em (Pu.dN s i=101) with OC | OC
 .have K:Hid (oF (Pu.dN s i) 1):=.inl ⟨OC,rfl⟩;rw[OC];clear OC;have R:=bQ 0 Q.o.v rfl;have b:=bM Q.o.v 0;have a:=bL (Q.o.an1 1);go_upto_region 7 with (fail);clear R b Q;generalize X.setCell (a_ gV 0) (I_ 1)=Z at *;have l:=bQ 1 a.o.rb rfl;have r:=bM a.o.rb 1;have y:=bL a.o.at1;go_wp2_with fail;clear l r a;generalize Z.setCell (a_ g 1) (I_ ((i:Int)+1))=W2 at *;have g1:=bP y.o.rb;rcases Classical.em (Pu.dN s (i+1)=60) with OD | OD
  .have f:Hid (∀e b,kI (.tuple #[.agg #[I_ 1,I_ 3,I_ 0],.bool true]) g s (i+2) vp d w e b->zt g s i vp d w e b):=fun e b k=>.inl ⟨i+2,_,_,_,.pop K.o OD,k⟩;refine (mK g (i+1) s vp d _ y.o.rb).mono ?_;rintro e N ⟨rfl,p⟩;have t:=bL (y.o.below p);clear p y;rw[OD];clear OD;have l:=bQ 1 t.o.rb rfl;have r:=bM t.o.rb 1;have b:Hid (Bu g s (i+2) vp d w gR gV 1 0 0 (N.setCell (a_ g 1) (I_ ((i:Int)+1+1)))):=t.o.at1;go_upto_region 12 with (fail);clear l r t;generalize N.setCell (a_ g 1) (I_ ((i:Int)+1+1))=I at *;have l:=bQ 1 b.o.v rfl;have r:=bM b.o.v 1;have a:=bL (b.o.Yy 3);go_upto_region 13 with (fail);clear l r b;generalize I.setCell (a_ gV 1) (I_ 3)=V at *;have aY:=bQ 0 a.o.r rfl;have S:=bQ 1 a.o.r rfl;have T:=bQ 2 a.o.r rfl;have D:=bM a.o.r 0;have E:=bM a.o.r 1;have F:=bM a.o.r 2;have R:=bQ 0 a.o.v rfl;have G:=bQ 1 a.o.v rfl;have r:=bQ 2 a.o.v rfl;obtain⟨C,b,l⟩:=a.o.fin;have z:=bL b;have A:=bL l;clear b l a;go_wp2;exact br_ (by simp[results,results142,asAddr,Result.andThen,C]) rfl (f.o _ _ ⟨rfl,z.o,A.o⟩)
  .rcases Classical.em (Pu.dN s (i+1)=62\/Pu.dN s (i+1)=43) with hgo | hgo;have j2:i+1<s.size:=Pu.fK (s:=s) (i:=i+1) (by rcases hgo with h | h <;> rw[h] <;> decide);have H:Hid (fP (Pu.dN s (i+2))->∀e b c,(Pu.dN s (i+1)=62/\c=1)\/(Pu.dN s (i+1)=43/\c=2)->kI (.tuple #[.agg #[I_ 1,I_ c,I_ (Pu.dN s (i+2)-97)],.bool true]) g s (i+3) vp d w e b->zt g s i vp d w e b):=by
    intro n e b c f k;rcases f with ⟨a,rfl⟩ | ⟨a,rfl⟩
    .exact .inl ⟨i+3,_,_,_,.bH K.o a n,k⟩
    .exact .inl ⟨i+3,_,_,_,.push K.o a n,k⟩
   have J:Hid (¬fP (Pu.dN s (i+2))->∀e b c,kI (.tuple #[.agg #[I_ 1,I_ c,I_ 0],.bool false]) g s (i+2) vp d w e b->zt g s i vp d w e b):=fun n e b c k=>.inr ⟨i+2,_,_,_,.mode K.o hgo n,k⟩;rotate_left;have f:Hid (∀e b,kI (.tuple #[.agg #[I_ 1,I_ 0,I_ 0],.bool true]) g s (i+1) vp d w e b->zt g s i vp d w e b):=fun e b k=>.inl ⟨i+1,_,_,_,.plain K.o OD (fun e=>hgo (.inl e)) (fun e=>hgo (.inr e)),k⟩;rotate_left;all_goals
    refine (mK g (i+1) s vp d _ y.o.rb).mono ?_;rintro e N ⟨rfl,p⟩
   .have t:=bL (y.o.below p);clear p y;generalize a:Pu.dN s (i+1)=q at *;clear a OD;have G:=bQ 1 t.o.v rfl;have L:=bM t.o.v 1;rcases hgo with h | h;focus
     subst h;have b:=bL (t.o.Yy 1);go_upto_region 18 with (fail);clear G L t;generalize N.setCell (a_ gV 1) (I_ 1)=I at *;have l:=bQ 1 b.o.rb rfl;have r:=bM b.o.rb 1;have a:Hid (Bu g s (i+2) vp d w gR gV 1 1 0 (I.setCell (a_ g 1) (I_ ((i:Int)+1+1)))):=b.o.at1
    rotate_left;focus
     subst h;have b:=bL (t.o.Yy 2);go_upto_region 18 with (fail);clear G L t;generalize N.setCell (a_ gV 1) (I_ 2)=I at *;have l:=bQ 1 b.o.rb rfl;have r:=bM b.o.rb 1;have a:Hid (Bu g s (i+2) vp d w gR gV 1 2 0 (I.setCell (a_ g 1) (I_ ((i:Int)+1+1)))):=b.o.at1
    rotate_left;all_goals
     go_wp2_with fail;clear l r b;generalize I.setCell (a_ g 1) (I_ ((i:Int)+1+1))=V at *;refine (Gt g (i+2) s vp d V a.o.rb o_).mono ?_
    .rintro e O (⟨n,rfl,u,v⟩ | ⟨n,rfl,u,v⟩);focus
      have l:=bL (a.o.fD u v);clear u v a;have f:=bL (fun e b=>H.o n e b 1 i_);clear H J n;generalize Pu.dN s (i+2)-97=x at *;have r:=bQ 2 l.o.v rfl;have b:=bM l.o.v 2;have z:=bL (l.o.zn x);go_upto_region 21 with (fail);clear r b l;generalize O.setCell (a_ gV 2) (I_ x)=U at *
     rotate_left;focus
      have l:=bL (a.o.fD u v);clear u v a;have f:=bL (fun e b=>J.o n e b 1);clear H J n;have r:=bQ 2 l.o.v rfl;have b:=bM l.o.v 2;have z:=bL (l.o.zn 0);go_upto_region 21 with (fail);clear r b l;generalize O.setCell (a_ gV 2) (I_ 0)=U at *
     all_goals
      have a:=z;clear z;have aY:=bQ 0 a.o.r rfl;have S:=bQ 1 a.o.r rfl;have T:=bQ 2 a.o.r rfl;have D:=bM a.o.r 0;have E:=bM a.o.r 1;have F:=bM a.o.r 2;have R:=bQ 0 a.o.v rfl;have G:=bQ 1 a.o.v rfl;have r:=bQ 2 a.o.v rfl;obtain⟨C,b,l⟩:=a.o.fin;have z:=bL b;have A:=bL l;clear b l a;go_wp2;exact br_ (by simp[results,results142,asAddr,Result.andThen,C]) rfl (f.o _ _ ⟨rfl,z.o,A.o⟩)
    .rintro e O (⟨n,rfl,u,v⟩ | ⟨n,rfl,u,v⟩);focus
      have l:=bL (a.o.fD u v);clear u v a;have f:=bL (fun e b=>H.o n e b 2 i_);clear H J n;generalize Pu.dN s (i+2)-97=x at *;have r:=bQ 2 l.o.v rfl;have b:=bM l.o.v 2;have z:=bL (l.o.zn x);go_upto_region 21 with (fail);clear r b l;generalize O.setCell (a_ gV 2) (I_ x)=U at *
     rotate_left;focus
      have l:=bL (a.o.fD u v);clear u v a;have f:=bL (fun e b=>J.o n e b 2);clear H J n;have r:=bQ 2 l.o.v rfl;have b:=bM l.o.v 2;have z:=bL (l.o.zn 0);go_upto_region 21 with (fail);clear r b l;generalize O.setCell (a_ gV 2) (I_ 0)=U at *
     all_goals
      have a:=z;clear z;have aY:=bQ 0 a.o.r rfl;have S:=bQ 1 a.o.r rfl;have T:=bQ 2 a.o.r rfl;have D:=bM a.o.r 0;have E:=bM a.o.r 1;have F:=bM a.o.r 2;have R:=bQ 0 a.o.v rfl;have G:=bQ 1 a.o.v rfl;have r:=bQ 2 a.o.v rfl;obtain⟨C,b,l⟩:=a.o.fin;have z:=bL b;have A:=bL l;clear b l a;go_wp2;exact br_ (by simp[results,results142,asAddr,Result.andThen,C]) rfl (f.o _ _ ⟨rfl,z.o,A.o⟩)
   .have a:=bL (y.o.below p);clear p y;generalize Pu.dN s (i+1)=q at *;have n1:(q == 60)=false:=by simpa using OD
    have x:(q == 62)=false:=by simp;omega
    have I:(q == 43)=false:=by simp;omega
    clear OD hgo;have aY:=bQ 0 a.o.r rfl;have S:=bQ 1 a.o.r rfl;have T:=bQ 2 a.o.r rfl;have D:=bM a.o.r 0;have E:=bM a.o.r 1;have F:=bM a.o.r 2;have R:=bQ 0 a.o.v rfl;have G:=bQ 1 a.o.v rfl;have r:=bQ 2 a.o.v rfl;obtain⟨C,b,l⟩:=a.o.fin;have z:=bL b;have A:=bL l;clear b l a;go_wp2;exact br_ (by simp[results,results142,asAddr,Result.andThen,C]) rfl (f.o _ _ ⟨rfl,z.o,A.o⟩)
 .rcases Classical.em (Pu.dN s i=115) with R7 | R7
  .have K:Hid (oF (Pu.dN s i) 0):=.inr ⟨R7,rfl⟩;rw[R7];clear R7 OC;have l:=bQ 1 Q.o.rb rfl;have r:=bM Q.o.rb 1;have y:=bL Q.o.at1;go_wp2_with fail;clear l r Q;generalize X.setCell (a_ g 1) (I_ ((i:Int)+1))=W2 at *;have g1:=bP y.o.rb;rcases Classical.em (Pu.dN s (i+1)=60) with OD | OD
   .have f:Hid (∀e b,kI (.tuple #[.agg #[I_ 0,I_ 3,I_ 0],.bool true]) g s (i+2) vp d w e b->zt g s i vp d w e b):=fun e b k=>.inl ⟨i+2,_,_,_,.pop K.o OD,k⟩;refine (mK g (i+1) s vp d _ y.o.rb).mono ?_;rintro e N ⟨rfl,p⟩;have t:=bL (y.o.below p);clear p y;rw[OD];clear OD;have l:=bQ 1 t.o.rb rfl;have r:=bM t.o.rb 1;have b:Hid (Bu g s (i+2) vp d w gR gV 0 0 0 (N.setCell (a_ g 1) (I_ ((i:Int)+1+1)))):=t.o.at1;go_upto_region 12 with (fail);clear l r t;generalize N.setCell (a_ g 1) (I_ ((i:Int)+1+1))=I at *;have l:=bQ 1 b.o.v rfl;have r:=bM b.o.v 1;have a:=bL (b.o.Yy 3);go_upto_region 13 with (fail);clear l r b;generalize I.setCell (a_ gV 1) (I_ 3)=V at *;have aY:=bQ 0 a.o.r rfl;have S:=bQ 1 a.o.r rfl;have T:=bQ 2 a.o.r rfl;have D:=bM a.o.r 0;have E:=bM a.o.r 1;have F:=bM a.o.r 2;have R:=bQ 0 a.o.v rfl;have G:=bQ 1 a.o.v rfl;have r:=bQ 2 a.o.v rfl;obtain⟨C,b,l⟩:=a.o.fin;have z:=bL b;have A:=bL l;clear b l a;go_wp2;exact br_ (by simp[results,results142,asAddr,Result.andThen,C]) rfl (f.o _ _ ⟨rfl,z.o,A.o⟩)
   .rcases Classical.em (Pu.dN s (i+1)=62\/Pu.dN s (i+1)=43) with hgo | hgo;have j2:i+1<s.size:=Pu.fK (s:=s) (i:=i+1) (by rcases hgo with h | h <;> rw[h] <;> decide);have H:Hid (fP (Pu.dN s (i+2))->∀e b c,(Pu.dN s (i+1)=62/\c=1)\/(Pu.dN s (i+1)=43/\c=2)->kI (.tuple #[.agg #[I_ 0,I_ c,I_ (Pu.dN s (i+2)-97)],.bool true]) g s (i+3) vp d w e b->zt g s i vp d w e b):=by
     intro n e b c f k;rcases f with ⟨a,rfl⟩ | ⟨a,rfl⟩
     .exact .inl ⟨i+3,_,_,_,.bH K.o a n,k⟩
     .exact .inl ⟨i+3,_,_,_,.push K.o a n,k⟩
    have J:Hid (¬fP (Pu.dN s (i+2))->∀e b c,kI (.tuple #[.agg #[I_ 0,I_ c,I_ 0],.bool false]) g s (i+2) vp d w e b->zt g s i vp d w e b):=fun n e b c k=>.inr ⟨i+2,_,_,_,.mode K.o hgo n,k⟩;rotate_left;have f:Hid (∀e b,kI (.tuple #[.agg #[I_ 0,I_ 0,I_ 0],.bool true]) g s (i+1) vp d w e b->zt g s i vp d w e b):=fun e b k=>.inl ⟨i+1,_,_,_,.plain K.o OD (fun e=>hgo (.inl e)) (fun e=>hgo (.inr e)),k⟩;rotate_left;all_goals
     refine (mK g (i+1) s vp d _ y.o.rb).mono ?_;rintro e N ⟨rfl,p⟩
    .have t:=bL (y.o.below p);clear p y;generalize a:Pu.dN s (i+1)=q at *;clear a OD;have G:=bQ 1 t.o.v rfl;have L:=bM t.o.v 1;rcases hgo with h | h;focus
      subst h;have b:=bL (t.o.Yy 1);go_upto_region 18 with (fail);clear G L t;generalize N.setCell (a_ gV 1) (I_ 1)=I at *;have l:=bQ 1 b.o.rb rfl;have r:=bM b.o.rb 1;have a:Hid (Bu g s (i+2) vp d w gR gV 0 1 0 (I.setCell (a_ g 1) (I_ ((i:Int)+1+1)))):=b.o.at1
     rotate_left;focus
      subst h;have b:=bL (t.o.Yy 2);go_upto_region 18 with (fail);clear G L t;generalize N.setCell (a_ gV 1) (I_ 2)=I at *;have l:=bQ 1 b.o.rb rfl;have r:=bM b.o.rb 1;have a:Hid (Bu g s (i+2) vp d w gR gV 0 2 0 (I.setCell (a_ g 1) (I_ ((i:Int)+1+1)))):=b.o.at1
     rotate_left;all_goals
      go_wp2_with fail;clear l r b;generalize I.setCell (a_ g 1) (I_ ((i:Int)+1+1))=V at *;refine (Gt g (i+2) s vp d V a.o.rb o_).mono ?_
     .rintro e O (⟨n,rfl,u,v⟩ | ⟨n,rfl,u,v⟩);focus
       have l:=bL (a.o.fD u v);clear u v a;have f:=bL (fun e b=>H.o n e b 1 i_);clear H J n;generalize Pu.dN s (i+2)-97=x at *;have r:=bQ 2 l.o.v rfl;have b:=bM l.o.v 2;have z:=bL (l.o.zn x);go_upto_region 21 with (fail);clear r b l;generalize O.setCell (a_ gV 2) (I_ x)=U at *
      rotate_left;focus
       have l:=bL (a.o.fD u v);clear u v a;have f:=bL (fun e b=>J.o n e b 1);clear H J n;have r:=bQ 2 l.o.v rfl;have b:=bM l.o.v 2;have z:=bL (l.o.zn 0);go_upto_region 21 with (fail);clear r b l;generalize O.setCell (a_ gV 2) (I_ 0)=U at *
      all_goals
       have a:=z;clear z;have aY:=bQ 0 a.o.r rfl;have S:=bQ 1 a.o.r rfl;have T:=bQ 2 a.o.r rfl;have D:=bM a.o.r 0;have E:=bM a.o.r 1;have F:=bM a.o.r 2;have R:=bQ 0 a.o.v rfl;have G:=bQ 1 a.o.v rfl;have r:=bQ 2 a.o.v rfl;obtain⟨C,b,l⟩:=a.o.fin;have z:=bL b;have A:=bL l;clear b l a;go_wp2;exact br_ (by simp[results,results142,asAddr,Result.andThen,C]) rfl (f.o _ _ ⟨rfl,z.o,A.o⟩)
     .rintro e O (⟨n,rfl,u,v⟩ | ⟨n,rfl,u,v⟩);focus
       have l:=bL (a.o.fD u v);clear u v a;have f:=bL (fun e b=>H.o n e b 2 i_);clear H J n;generalize Pu.dN s (i+2)-97=x at *;have r:=bQ 2 l.o.v rfl;have b:=bM l.o.v 2;have z:=bL (l.o.zn x);go_upto_region 21 with (fail);clear r b l;generalize O.setCell (a_ gV 2) (I_ x)=U at *
      rotate_left;focus
       have l:=bL (a.o.fD u v);clear u v a;have f:=bL (fun e b=>J.o n e b 2);clear H J n;have r:=bQ 2 l.o.v rfl;have b:=bM l.o.v 2;have z:=bL (l.o.zn 0);go_upto_region 21 with (fail);clear r b l;generalize O.setCell (a_ gV 2) (I_ 0)=U at *
      all_goals
       have a:=z;clear z;have aY:=bQ 0 a.o.r rfl;have S:=bQ 1 a.o.r rfl;have T:=bQ 2 a.o.r rfl;have D:=bM a.o.r 0;have E:=bM a.o.r 1;have F:=bM a.o.r 2;have R:=bQ 0 a.o.v rfl;have G:=bQ 1 a.o.v rfl;have r:=bQ 2 a.o.v rfl;obtain⟨C,b,l⟩:=a.o.fin;have z:=bL b;have A:=bL l;clear b l a;go_wp2;exact br_ (by simp[results,results142,asAddr,Result.andThen,C]) rfl (f.o _ _ ⟨rfl,z.o,A.o⟩)
    .have a:=bL (y.o.below p);clear p y;generalize Pu.dN s (i+1)=q at *;have n1:(q == 60)=false:=by simpa using OD
     have x:(q == 62)=false:=by simp;omega
     have I:(q == 43)=false:=by simp;omega
     clear OD hgo;have aY:=bQ 0 a.o.r rfl;have S:=bQ 1 a.o.r rfl;have T:=bQ 2 a.o.r rfl;have D:=bM a.o.r 0;have E:=bM a.o.r 1;have F:=bM a.o.r 2;have R:=bQ 0 a.o.v rfl;have G:=bQ 1 a.o.v rfl;have r:=bQ 2 a.o.v rfl;obtain⟨C,b,l⟩:=a.o.fin;have z:=bL b;have A:=bL l;clear b l a;go_wp2;exact br_ (by simp[results,results142,asAddr,Result.andThen,C]) rfl (f.o _ _ ⟨rfl,z.o,A.o⟩)
  .have f:Hid (∀e b,kI (.tuple #[.agg #[I_ 0,I_ 0,I_ 0],.bool false]) g s i vp d w e b->zt g s i vp d w e b):=fun e b k=>.inr ⟨i,_,_,_,.none OC R7,k⟩;generalize Pu.dN s i=q at *;have n1:(q == 101)=false:=by simpa using OC
   have x:(q == 115)=false:=by simpa using R7
   clear OC R7;have a:=Q;clear Q;have aY:=bQ 0 a.o.r rfl;have S:=bQ 1 a.o.r rfl;have T:=bQ 2 a.o.r rfl;have D:=bM a.o.r 0;have E:=bM a.o.r 1;have F:=bM a.o.r 2;have R:=bQ 0 a.o.v rfl;have G:=bQ 1 a.o.v rfl;have r:=bQ 2 a.o.v rfl;obtain⟨C,b,l⟩:=a.o.fin;have z:=bL b;have A:=bL l;clear b l a;go_wp2;exact br_ (by simp[results,results142,asAddr,Result.andThen,C]) rfl (f.o _ _ ⟨rfl,z.o,A.o⟩)
def tQ(mode em act md:Int)(c:Bool)(af:Option Addr)(mf cf:Nat)(al:Option Addr)(nl cl:Nat)(dn:Bool):List V_:=[I_ mode,I_ em,I_ act,I_ md,.bool c,.slice af mf cf,.slice al nl cl,.bool dn]
def I8(B g:Nat)(s:Y_)(i:Nat)(ps:List Pu.aJ)(d:Bool)(W:W_):Prop:=∃vp qs,Rd B g s i ps d vp qs W
def afB(B g:Nat)(s:Y_)(i:Nat)(ps:List Pu.aJ)(w:W_)(e:Ending)(w':W_):Prop:=
 (∃k x af mf cf al nl cl,I6 s i k x/\e=.returned (.tuple #[.agg (tQ x.mode x.emit x.act x.md (Pu.part x.re ps).1.empty af mf cf al nl cl x.down).toArray,.bool true])/\fe w' (.slice af mf cf) (Pu.part x.re ps).1.first/\fe w' (.slice al nl cl) (Pu.part x.re ps).1.last/\Rk B w w'/\I8 B g s k (Pu.part x.re ps).2 x.down w')\/
 (∃k mode em act md c af mf cf al nl cl dn ps' d',V7 s i k/\e=.returned (.tuple #[.agg (tQ mode em act md c af mf cf al nl cl dn).toArray,.bool false])/\Rk B w w'/\I8 B g s k ps' d' w')
structure LS(B g:Nat)(s:Y_)(k:Nat)(ps:List Pu.aJ)(d:Bool)(w:W_)(gR:Nat)(W:W_):Prop where
 rd:I8 B g s k ps d W
 rk:Rk B w W
 r:dh W gR 129 (tQ 0 0 0 0 false none 0 0 none 0 0 false)
 ap:w.heap.size<=gR/\B<=w.heap.size
section
variable {B g:Nat} {s:Y_} {k j:Nat} {ps ps':List Pu.aJ} {d d':Bool} {w:W_} {gR:Nat} {W W':W_} {vp:V_} {qs:List (Pu.aJ × V_)}
theorem I8.lt(h:I8 B g s k ps d W):B<=W.heap.size:=by obtain⟨vp,qs,a⟩:=h;exact a.lt
theorem I8.below(h:I8 B g s k ps d W)(a:B_ W W'):I8 B g s k ps d W':=by obtain⟨vp,qs,b⟩:=h;exact⟨vp,qs,b.below a⟩
theorem LS.below(h:LS B g s k ps d w gR W)(a:B_ W W'):LS B g s k ps d w gR W':=⟨h.rd.below a,h.rk.trans (.below h.rd.lt a),bO h.r a (bP h.r),h.ap⟩
theorem LS.on(h:LS B g s k ps d w gR W)(rk:Rk B W W')(a:I8 B g s j ps' d' W'):LS B g s j ps' d' w gR W':=⟨a,h.rk.trans rk,rk.fB h.r d_ d_,h.ap⟩
theorem XE{c:Bool}(h:dh W g 129 (tQ mode em act md c af mf cf al nl cl dn)):(loadVar 129 (a_ g 0)).run prog W=.ok (.agg (tQ mode em act md c af mf cf al nl cl dn).toArray) W:=
 run_loadVar_mid W g 0 129 (tQ mode em act md c af mf cf al nl cl dn) _ (eQ h) underlying129 rfl k_
theorem AL{c:Bool}:∀u∈tQ mode em act md c af mf cf al nl cl dn,u.oneCell'=true:=by intro u a;simp[tQ]at a;rcases a with rfl | rfl | rfl | rfl | rfl | rfl | rfl | rfl <;> rfl
theorem LS.put(h:LS B g s k ps d w gR W)(mode em act md:Int)(c:Bool)(af:Option Addr)(mf cf:Nat)(al:Option Addr)(nl cl:Nat)(dn:Bool) :
  (loadVar 129 (a_ gR 0)).run prog (W.setCells gR 0 (tQ mode em act md c af mf cf al nl cl dn))=.ok (.agg (tQ mode em act md c af mf cf al nl cl dn).toArray) (W.setCells gR 0 (tQ mode em act md c af mf cf al nl cl dn))/\
  Rk B w (W.setCells gR 0 (tQ mode em act md c af mf cf al nl cl dn))/\I8 B g s k ps d (W.setCells gR 0 (tQ mode em act md c af mf cf al nl cl dn))/\(∀v l,fe W v l->fe (W.setCells gR 0 (tQ mode em act md c af mf cf al nl cl dn)) v l):=by
 obtain⟨vp,qs,f⟩:=h.rd;have a:=Dg (g:=gR) (tQ mode em act md c af mf cf al nl cl dn) 0 W;exact⟨XE (pO _ h.r rfl),h.rk.fresh a h.ap.1 h.ap.2,⟨vp,qs,f.yQ h.r d_ d_ d_ a⟩,fun v l b=>dM b h.r d_ a⟩
end
theorem En{P:Program}{b:Array Oper}{S:W_->Prop}{f:Oper}{a:Act}(E:Region.wanted f (yielded b a.tmps)=true)(t:TypeId)(i l n p:Operand)(q r u v:V_)(D:f.op=.build t #[(0,i),(1,l),(2,n),(3,p)])(x:a.eval i=q)(y:a.eval l=r)(z:a.eval n=u)(A:a.eval p=v)(cells:Array V_)(C:P.built t [(0,q),(1,r),(2,u),(3,v)]=some cells):YieldsIf P b S f (.agg cells) a:=
 .inl ⟨E,fun w _=>by
  subst x y z A;have h:=run_build (P:=P) w t #[(0,a.eval i),(1,a.eval l),(2,a.eval n),(3,a.eval p)] cells C;unfold execOp;simp only[D,Sem.run_bind,List.map_toArray,List.map_cons,List.map_nil];rw[h];rfl⟩
theorem SE(a eb c m:Int)(em dn:Bool)(af:Option Addr)(mf cf:Nat)(al:Option Addr)(nl cl:Nat):prog.built 129 [(0,I_ a),(1,.agg #[I_ eb,I_ c,I_ m]),(2,.agg #[.bool em,.slice af mf cf,.slice al nl cl]),(3,.bool dn)]=some (tQ a eb c m em af mf cf al nl cl dn).toArray:=k_
theorem xq{P:Program}{w:W_}{i:Array Oper}{o:Oper}{a:Act}{K:Act->W_->Prop}{Q:Exit->Act->W_->Prop}{E:Prop}(l:o.guard=none)(n:TypeId)(x y:Operand)(r:o.op=.store n x y)
  (b f:Nat) (cells:Array V_) (v:a.eval x=.pointer (some (a_ b f))) (z:a.eval y=.agg cells) (t:w.there b f cells.size) (q:(P.info? n).map (·.size)=some cells.size) (p:cells.all (·.oneCell')=true)
  (h:K (a.put o.dst undef) (w.setCells b f cells.toList)):if Region.wanted o (yielded i a.tmps)=true then Oper.wp P o a w K Q else E:=by
 have u:Region.wanted o (yielded i a.tmps)=true:=by simp[Region.wanted,l]
 rw[if_pos u];exact wp_store_mid n x y r b f cells v z t q p h
theorem tN{a q b r:Int}{c v p:Bool}{f i:Option Addr}{t l u n:Nat}(h:dh W g 129 (tQ mode em act md c af mf cf al nl cl dn)):W.there g 0 (tQ a q b r v f t l i u n p).toArray.size:=by have:=mq h;exact this
structure LnS(gU gP g:Nat)(eb c m:Int)(em:Bool)(af:Option Addr)(mf cf:Nat)(al:Option Addr)(nl cl:Nat)(D:Bool)(w':W_):Prop where
 u0:w'.cell? (a_ gU 0)=some (I_ eb)
 u1:w'.cell? (a_ gU 1)=some (I_ c)
 u2:w'.cell? (a_ gU 2)=some (I_ m)
 p0:w'.cell? (a_ gP 0)=some (.bool em)
 p1:w'.cell? (a_ gP 1)=some (.slice af mf cf)
 p2:w'.cell? (a_ gP 2)=some (.slice al nl cl)
 r3:w'.cell? (a_ g 3)=some (.bool D)
theorem abN(B g i:Nat)(s:Y_)(ps:List Pu.aJ)(d:Bool)(w:W_)(h:I8 B g s i ps d w)(R:jh ps)(hl:ps.length<=i)(hi:i<=s.size)(hs:s.size<=400) :
  Calls prog 126 #[p_ g] w (afB B g s i ps w):=by
 have BL:=h.lt;obtain⟨vp,qs,f⟩:=h;have gl:=f.rb.lt;have b:=gs_ w g 3 (.bool false);have aY:Rd B g s i ps false vp qs (w.setCell (a_ g 3) (.bool false)):=f.fD b (cK f.rb 3 _);have l:(w.setCell (a_ g 3) (.bool false)).heap.size=w.heap.size:=by simp[World.setCell]
 have a:=(Br_ (w.setCell (a_ g 3) (.bool false)).heap.size (w.setCell (a_ g 3) (.bool false))).alloc dF (c_ (tQ 0 0 0 0 false none 0 0 none 0 0 false).toArray 129);have p:=aY.below a;have T:Hid (LS B g s i ps false w w.heap.size ((w.setCell (a_ g 3) (.bool false)).alloc (c_ (tQ 0 0 0 0 false none 0 0 none 0 0 false).toArray 129))):=⟨⟨vp,qs,p⟩,(f.rk b).trans (.below aY.lt a),by have:=hn_ (w.setCell (a_ g 3) (.bool false)) (c_ (tQ 0 0 0 0 false none 0 0 none 0 0 false).toArray 129);rw[l]at this;exact this,dF,BL⟩;have C:=bL p;have q:=bQ 3 f.rb rfl;have r:=bM f.rb 3;have OK:=bL R;have n:g≠w.heap.size:=o_;clear a b aY p f R l;go_in;go_wp2_with fail;generalize a:(w.setCell (a_ g 3) (.bool false)).alloc (c_ (tQ 0 0 0 0 false none 0 0 none 0 0 false).toArray 129)=W0 at *;simp only[tQ]at a;rw[a];clear a q r n;generalize w.heap.size=gR at *;refine (Gt g i s vp false W0 C.o.rb o_).mono ?_;rintro e w1 (⟨I,rfl,a,n⟩ | ⟨I,rfl,a,n⟩);rotate_left
 .have q:=bL (T.o.on (C.o.rk a) ⟨vp,qs,C.o.fD a n⟩);have F:Hid (V7 s i i):=.mode I;clear a n T C I;have LX:=q;clear q;obtain⟨A,b,l,_⟩:=LX.o.put 0 0 0 0 false none 0 0 none 0 0 false;have r:=bL b;have t:=bL l;clear b l;go_wp2_with (refine ws_ rfl 129 (.tmp 2) (.tmp 23) rfl gR 0 (tQ 0 0 0 0 false none 0 0 none 0 0 false).toArray rfl rfl (tN LX.o.r) k_ (oc_ AL) ?_);exact br_ (by simp[results,results126,asAddr,Result.andThen,A]) rfl (.inr ⟨_,0,0,0,0,false,none,0,0,none,0,0,false,_,_,F.o,rfl,r.o,t.o⟩)
 .have U:=bL (T.o.on (C.o.rk a) ⟨vp,qs,C.o.fD a n⟩);have E:=bL (C.o.fD a n);have i1:i<s.size:=Pu.fK (s:=s) (i:=i) (by unfold fP at I;omega);have L:=bL I;clear a n T C I;obtain⟨p,b⟩:∃p,p=Pu.dN s i-97:=⟨_,rfl⟩;have HM:=bL b;rw[<-b];clear b;go_wp2_with fail;refine (pE g (i+1) s vp false 32 w1 E.o.rb o_).mono ?_;rcases Classical.em (Pu.dN s (i+1)=32) with h32 | h32;rotate_left
  .rw [if_neg h32,dn_ h32];rintro e w2 ⟨rfl,b,f⟩;have q:=bL (U.o.on (E.o.rk b) ⟨vp,qs,E.o.fD b f⟩);have F:Hid (V7 s i (i+1)):=.blank L.o h32;clear b f U E h32;have LX:=q;clear q;obtain⟨A,b,l,_⟩:=LX.o.put 0 0 0 0 false none 0 0 none 0 0 false;have r:=bL b;have t:=bL l;clear b l;go_wp2_with (refine ws_ rfl 129 (.tmp 2) (.tmp 23) rfl gR 0 (tQ 0 0 0 0 false none 0 0 none 0 0 false).toArray rfl rfl (tN LX.o.r) k_ (oc_ AL) ?_);exact br_ (by simp[results,results126,asAddr,Result.andThen,A]) rfl (.inr ⟨_,0,0,0,0,false,none,0,0,none,0,0,false,_,_,F.o,rfl,r.o,t.o⟩)
  .rw [if_pos h32,dt_ h32];rintro e w2 ⟨rfl,b,f⟩;have V:=bL (U.o.on (E.o.rk b) ⟨vp,qs,E.o.fD b f⟩);have R2:=bL (E.o.fD b f);have i2:i+1<s.size:=Pu.fK (s:=s) (i:=i+1) (by rw[h32];decide);have y:=bL h32;clear b f U E h32;go_wp2_with fail;refine (PY s hs (i+2) i2 B g ps false vp qs w2 R2.o OK.o o_).mono ?_;rintro e x (⟨j,J,D,v,u,G,hP,rfl,pm,rk,f⟩ | ⟨j,a2,ps2,d2,v,u,G,hF,rfl,pm,oa,ZC,lk,rk,f⟩);rotate_left
   .obtain⟨af,mf,cf,al,nl,cl,rfl,n1,r⟩:=pm;have b:=(Br_ x.heap.size x).alloc dF (c_ #[.bool a2.empty,.slice af mf cf,.slice al nl cl] 127);have q:=bL ((V.o.on rk ⟨u,G,f⟩).below b);have F:Hid (V7 s i j):=.pat L.o y.o hF;clear b rk f n1 r V R2 hF oa ZC;go_upto_region 6 with (fail);generalize x.alloc (c_ #[.bool a2.empty,.slice af mf cf,.slice al nl cl] 127)=W3 at *;have LX:=q;clear q;obtain⟨A,b,l,_⟩:=LX.o.put 0 0 0 0 false none 0 0 none 0 0 false;have r:=bL b;have t:=bL l;clear b l;go_wp2_with (refine ws_ rfl 129 (.tmp 2) (.tmp 36) rfl gR 0 (tQ 0 0 0 0 false none 0 0 none 0 0 false).toArray rfl rfl (tN LX.o.r) k_ (oc_ AL) ?_);exact br_ (by simp[results,results126,asAddr,Result.andThen,A]) rfl (.inr ⟨_,0,0,0,0,false,none,0,0,none,0,0,false,_,_,F.o,rfl,r.o,t.o⟩)
   .obtain⟨af,mf,cf,al,nl,cl,rfl,n1,r⟩:=pm;have jl:j<=s.size:=hP.le i2 2 (.inl ⟨trivial,.inl rfl⟩);have b:=(Br_ x.heap.size x).alloc dF (c_ #[.bool (Pu.part J ps).1.empty,.slice af mf cf,.slice al nl cl] 127);have f:Rd B g s j (Pu.part J ps).2 D u G x:=f;have N:=bL ((V.o.on rk ⟨u,G,f⟩).below b);have z:=bL (f.below b);have N1:=bL (n1.below b);have N2:=bL (r.below b);have XP:Hid (dh (x.alloc (c_ #[.bool (Pu.part J ps).1.empty,.slice af mf cf,.slice al nl cl] 127)) x.heap.size 127 [.bool (Pu.part J ps).1.empty,.slice af mf cf,.slice al nl cl]):=hn_ _ _;have HP:=bL hP;obtain⟨em,l⟩:∃em,em=(Pu.part J ps).1.empty:=⟨_,rfl⟩;have Z:=bL l;rw[<-l]at N z N1 N2 XP;rw[<-l];clear b rk f n1 r V R2 hP l;go_wp2_with fail;generalize x.alloc (c_ #[.bool em,.slice af mf cf,.slice al nl cl] 127)=W3 at *;generalize x.heap.size=gP at *;refine (pE g j s u D 32 W3 z.o.rb o_).mono ?_;rcases Classical.em (Pu.dN s j=32) with h32 | h32;rotate_left
    .rw [if_neg h32,dn_ h32];rintro e w4 ⟨rfl,b,l⟩;have q:=bL (N.o.on (z.o.rk b) ⟨u,G,z.o.fD b l⟩);have F:Hid (V7 s i j):=.blank' L.o y.o HP.o h32;clear b l N z h32;have LX:=q;clear q;obtain⟨A,b,l,_⟩:=LX.o.put 0 0 0 0 false none 0 0 none 0 0 false;have r:=bL b;have t:=bL l;clear b l;go_wp2_with (refine ws_ rfl 129 (.tmp 2) (.tmp 36) rfl gR 0 (tQ 0 0 0 0 false none 0 0 none 0 0 false).toArray rfl rfl (tN LX.o.r) k_ (oc_ AL) ?_);exact br_ (by simp[results,results126,asAddr,Result.andThen,A]) rfl (.inr ⟨_,0,0,0,0,false,none,0,0,none,0,0,false,_,_,F.o,rfl,r.o,t.o⟩)
    .rw [if_pos h32,dt_ h32];rintro e w4 ⟨rfl,b,l⟩;have q:=z.o.rk b;have L4:=bL (N.o.on q ⟨u,G,z.o.fD b l⟩);have X:=bL (z.o.fD b l);have M1:=bL (q.jK N1.o);have M2:=bL (q.jK N2.o);have t:=bL (q.fB XP.o d_ d_);have j1:j<s.size:=Pu.fK (s:=s) (i:=j) (by rw[h32];decide);have Q:=bL h32;clear b l N z h32 q N1 N2 XP;go_wp2_with fail;refine (Rc g (j+1) s u D w4 X.o.rb o_).mono ?_;intro e H hq;have hq:∃k eb c m ok,(ok=true->Pu.Act s (j+1) k eb c m)/\(ok=false->QX s (j+1) k)/\kI (.tuple #[.agg #[I_ eb,I_ c,I_ m],.bool ok]) g s k u D w4 e H:=by
      rcases hq with ⟨k,eb,c,m,b,l⟩ | ⟨k,eb,c,m,b,l⟩
      .exact⟨k,eb,c,m,true,fun _=>b,fun e=>(by cases e),l⟩
      .exact⟨k,eb,c,m,false,fun e=>(by cases e),fun _=>b,l⟩
     obtain⟨k,eb,c,m,ok,hA,A,rfl,l,F⟩:=hq;have K:=X.o.rk l;have r5:=X.o.fD l F;have b:=(Br_ H.heap.size H).alloc dF (c_ #[I_ eb,I_ c,I_ m] 48);have L5:=bL ((L4.o.on K ⟨u,G,r5⟩).below b);have R5:=bL (r5.below b);have Q1:=bL ((K.jK M1.o).below b);have Q2:=bL ((K.jK M2.o).below b);have r:=K.fB t.o d_ d_;have q:=bL (bO r b (bP r));have O:Hid (dh (H.alloc (c_ #[I_ eb,I_ c,I_ m] 48)) H.heap.size 48 [I_ eb,I_ c,I_ m]):=hn_ _ _;have HA:=bL hA;have Y:=bL A;clear l F K r5 b L4 X M1 M2 t r hA A;have r3:=bQ 3 R5.o.rb rfl;have p0:=bQ 0 q.o rfl;have p1:=bQ 1 q.o rfl;have p2:=bQ 2 q.o rfl;have u0:=bQ 0 O.o rfl;have u1:=bQ 1 O.o rfl;have u2:=bQ 2 O.o rfl;go_upto_region 9 with (fail);generalize H.alloc (c_ #[I_ eb,I_ c,I_ m] 48)=F at *;generalize H.heap.size=gU at *;have dr:=(Br_ F.heap.size F).drew;have LX:=bL (L5.o.below dr);obtain⟨A,b,l,K⟩:=LX.o.put p eb c m em af mf cf al nl cl D;have r:=bL b;have t:=bL l;have NF1:=bL (K _ _ (Q1.o.below dr));have NF2:=bL (K _ _ (Q2.o.below dr));clear b l K Q1 Q2;have X:Hid (afB B g s i ps w (.returned (.tuple #[.agg (tQ p eb c m em af mf cf al nl cl D).toArray,.bool ok])) (F.drew.setCells gR 0 (tQ p eb c m em af mf cf al nl cl D))):=by
      cases ok with
      | true=>exact .inl ⟨k,⟨p,eb,c,m,J,D⟩,af,mf,cf,al,nl,cl,by rw[HM.o];exact .mk L.o y.o HP.o Q.o (HA.o rfl),by rw[<-Z.o],NF1.o,NF2.o,r.o,t.o⟩
      | false=>exact .inr ⟨k,_,_,_,_,_,_,_,_,_,_,_,_,_,_,.act L.o y.o HP.o Q.o (Y.o rfl),rfl,r.o,t.o⟩
     have S1:LnS gU gP g eb c m em af mf cf al nl cl D F.drew:=⟨u0,u1,u2,p0,p1,p2,r3⟩;have l:=pM (tQ p eb c m em af mf cf al nl cl D) 0 F.drew O.o (dI O.o LX.o.r d_);have b:=pM (tQ p eb c m em af mf cf al nl cl D) 0 F.drew q.o (dI q.o LX.o.r d_);have K:=pM (tQ p eb c m em af mf cf al nl cl D) 0 F.drew R5.o.rb (dI R5.o.rb LX.o.r d_);have S6:LnS gU gP g eb c m em af mf cf al nl cl D (F.drew.setCells gR 0 (tQ p eb c m em af mf cf al nl cl D).toArray.toList):=⟨bN (j:=0) l rfl,bN (j:=1) l rfl,bN (j:=2) l rfl,bN (j:=0) b rfl,bN (j:=1) b rfl,bN (j:=2) b rfl,bN (j:=3) K rfl⟩;clear l b K u0 u1 u2 p0 p1 p2 r3;refine wd_ (S:=LnS gU gP g eb c m em af mf cf al nl cl D) k_ S1 (fun dK=>?_);refine Ur 0 ?_;refine Ur 1 ?_;refine Ur 2 ?_;refine Ur 3 ?_;refine Ur 4 ?_;refine Ur 5 ?_;refine Ur 6 ?_;refine wpAnyH_take (i:=7) (v:=.agg (tQ p eb c m em af mf cf al nl cl D).toArray) rfl k_ k_ k_ (fun _ _ _ h=>h) (En r_ 129 (.tmp 42) (.tmp 43) (.tmp 44) (.tmp 48) (I_ p) (.agg #[I_ eb,I_ c,I_ m]) (.agg #[.bool em,.slice af mf cf,.slice al nl cl]) (.bool D) rfl rfl rfl rfl rfl _ (SE _ _ _ _ _ _ _ _ _ _ _ _)) y_ ?_
     try simp only[oQ,Act.put]
     refine cB 8 ?_;refine fF 9 (fun K b=>?_);refine xq rfl 129 (.tmp 2) (.tmp 49) rfl gR 0 (tQ p eb c m em af mf cf al nl cl D).toArray rfl rfl (tN LX.o.r) k_ (oc_ AL) ?_;refine b.out _ _ S6 (fun l=>?_);clear b K
     try simp only[gt_,List.getElem_cons_succ,cz_,Act.put]
     refine fF 10 (fun K b=>?_);go_simp;refine b.out _ _ l (fun lT=>?_);clear b K;refine wpAnyH_done k_ ?_ _;clear dK l lT;go_wp2;exact br_ (by simp[results,results126,asAddr,Result.andThen,A]) rfl X.o
end Go.Proofs.YtmccnmgaoppogabGreat
