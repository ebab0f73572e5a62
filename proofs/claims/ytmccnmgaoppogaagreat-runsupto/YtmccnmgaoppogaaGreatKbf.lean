import Derived.Test.YtmccnmgaoppogaaGreatKbe
namespace Go.Proofs.YtmccnmgaoppogaaGreat
open Pu
set_option linter.all false
set_option maxRecDepth 100000
set_option maxHeartbeats 8000000
open Go.RowKit
theorem GM (s:Y_) (w:W_) (hs:s.size<=1000000) :
  C_ 112 #[.string s] w (I6 59 3 (s.size / 3) (eG (dE s 0 (s.size / 3))) w):=by
 obtain⟨aS,hi,hz0,hz1,hz2⟩:=ip_ Tryz.info59;go_enter Tryz.func112,Tryz.ntmps112
 go_wp2_with (at_make;refine wpList_make_own _ rfl _ _ 40 rfl w.heap.size 59 aS (.agg #[I_ 0,I_ 0,I_ 0]) 3 Tryz.underlying40 hi hz0 hz1 _ _ _ (s.size / 3) rfl rfl (by omega) (by rw [hz2];omega) (by unfold maxLen;omega) di ?_;intro w1 nZ kN)
 have iE:B_ w w1:=(Br_ _ _).grown kN di (fun k h=>by cases h);have HO:=bK nZ;clear nZ kN
 go_loopw [3,4] (fun f i wr=>∃(k:Nat) (f':V_),k<=s.size / 3/\i=I_ ((3*k:Nat):Int)/\f'=f/\B_ w wr/\wr.ownsRow w.heap.size 59 3 f' k (eG (dE s 0 k))) (fun _ i _=>s.size+3-(intOf i).toNat)
 case atStart=>exact⟨0,_,zl_ _,rfl,rfl,iE,HO.o⟩
 case round=>
  clear HO iE;obtain⟨k,f,hk,rfl,rfl,hbel,fH⟩:=hrel;by_cases hlt:3*k+3<=s.size
  .have hk1:k+1<=s.size / 3:=by omega
   have hst:=Fq s 0 k;have HST:=bK hst;clear hst;rw [Nat.zero_add] at HST;generalize ha:3*k=a at *;have HA:=bK ha;clear ha;have x0:=fun w=>dU s (a:Int) a rfl (by omega) w
   have b0:=iC s a;have x1:=fun w=>dU s ((a:Int)+1) (a+1) (by omega) (by omega) w
   have b1:=iC s (a+1);have x2:=fun w=>dU s ((a:Int)+2) (a+2) (by omega) (by omega) w
   have b2:=iC s (a+2);generalize bt s a=p0 at *;generalize bt s (a+1)=p1 at *;generalize bt s (a+2)=p2 at *;have j0:=jg a;have k0:(a:Int)<s.size:=by omega
   have j1:(0:Int)<=a+1:=by omega
   have k1:(a:Int)+1<(s.size:Int):=by omega
   have wr1:=kg a;have j2:(0:Int)<=a+2:=by omega
   have k2:(a:Int)+2<(s.size:Int):=by omega
   have wr2:=xF ((a:Int)+2);have HO:=bK fH;clear fH;have aez:=hbel.size
   go_wp2_with fail
   go_region
   go_wp2_with (at_builtin;refine wo_ _ rfl (.tmp 32) (.tmp 34) 40 rfl w.heap.size 59 aS (.agg #[I_ 0,I_ 0,I_ 0]) 3 24 Tryz.underlying40 hi hz0 hz1 hz2 rfl (by decide) f k (eG (dE s 0 k)) rfl (oa_ (World.ownsRow.drew (oa_ HO.o (c_ #[I_ p0,I_ p1,I_ p2] 59))) _) (a_ (wr.heap.size+1) 0) 1 1 [I_ p0,I_ p1,I_ p2] rfl rfl (jw (by simp)) (by intro u hu;simp at hu;rcases hu with rfl | rfl | rfl <;> rfl) (by unfold maxLen;omega) (by omega) (by simp;omega) ?_;intro v2 w2 dw bS _)
   have nY:B_ w w2:=(((hbel.alloc aez _).drew).alloc (by show w.heap.size<=(wr.alloc _).heap.size;simp;omega) _).grown bS (by simp;omega) (fun k' h=>(ol_ HO.o k' h).1);rw [<-HST.o] at dw;clear bS x0 x1 x2
   go_roundw
   case rel=>exact⟨k+1,_,hk1,by have:=HA.o;go_num,rfl,nY,dw⟩
   case measure=>simp [intOf];omega
  .have hke:k=s.size / 3:=by omega
   subst hke;go_wp2;go_ret;exact⟨_,rfl,hbel,fH⟩
theorem JK (s:Y_) (w:W_) (hs:s.size<=1000000) :
  C_ 113 #[.string s] w (I6 61 4 (s.size / 5) (dC (kM s 0 (s.size / 5))) w):=by
 obtain⟨aS,hi,hz0,hz1,hz2⟩:=ip_ Tryz.info61;go_enter Tryz.func113,Tryz.ntmps113
 go_wp2_with (at_make;refine wpList_make_own _ rfl _ _ 41 rfl w.heap.size 61 aS (.agg #[I_ 0,I_ 0,I_ 0,I_ 0]) 4 Tryz.underlying41 hi hz0 hz1 _ _ _ (s.size / 5) rfl rfl (by omega) (by rw [hz2];omega) (by unfold maxLen;omega) di ?_;intro w1 nZ kN)
 have iE:B_ w w1:=(Br_ _ _).grown kN di (fun k h=>by cases h);have HO:=bK nZ;clear nZ kN
 go_loopw [3,4] (fun f i wr=>∃(k:Nat) (f':V_),k<=s.size / 5/\i=I_ ((5*k:Nat):Int)/\f'=f/\B_ w wr/\wr.ownsRow w.heap.size 61 4 f' k (dC (kM s 0 k))) (fun _ i _=>s.size+5-(intOf i).toNat)
 case atStart=>exact⟨0,_,zl_ _,rfl,rfl,iE,HO.o⟩
 case round=>
  clear HO iE;obtain⟨k,f,hk,rfl,rfl,hbel,fH⟩:=hrel;by_cases hlt:5*k+5<=s.size
  .have hk1:k+1<=s.size / 5:=by omega
   have hst:=H9 s 0 k;have HST:=bK hst;clear hst;rw [Nat.zero_add] at HST;generalize ha:5*k=a at *;have HA:=bK ha;clear ha;have x0:=fun w=>dU s (a:Int) a rfl (by omega) w
   have b0:=iC s a;have x1:=fun w=>dU s ((a:Int)+1) (a+1) (by omega) (by omega) w
   have b1:=iC s (a+1);have x2:=fun w=>dU s ((a:Int)+2) (a+2) (by omega) (by omega) w
   have b2:=iC s (a+2);have x3:=fun w=>dU s ((a:Int)+3) (a+3) (by omega) (by omega) w
   have b3:=iC s (a+3);have x4:=fun w=>dU s ((a:Int)+4) (a+4) (by omega) (by omega) w
   have b4:=iC s (a+4);generalize bt s a=p0 at *;generalize bt s (a+1)=p1 at *;generalize bt s (a+2)=p2 at *;generalize bt s (a+3)=p3 at *;generalize bt s (a+4)=p4 at *;have j0:=jg a;have k0:(a:Int)<s.size:=by omega
   have j1:(0:Int)<=a+1:=by omega
   have k1:(a:Int)+1<(s.size:Int):=by omega
   have wr1:=kg a;have j2:(0:Int)<=a+2:=by omega
   have k2:(a:Int)+2<(s.size:Int):=by omega
   have wr2:=xF ((a:Int)+2);have j3:(0:Int)<=a+3:=by omega
   have k3:(a:Int)+3<(s.size:Int):=by omega
   have wr3:=xF ((a:Int)+3);have j4:(0:Int)<=a+4:=by omega
   have k4:(a:Int)+4<(s.size:Int):=by omega
   have wr4:=xF ((a:Int)+4);have HO:=bK fH;clear fH;have aez:=hbel.size
   go_wp2_with fail
   go_region_held3 (fun _=>True) (trivial) (first | (go_at_call 110;refine (EY _ _ _ b3.1 b3.2 b4.1 b4.2).mono ?_;rintro e w' ⟨rfl,rfl⟩))
   all_goals go_wp2_with fail
   all_goals go_region
   all_goals
    go_wp2_with (at_builtin;go_must (refine wo_ _ rfl (.tmp 43) (.tmp 45) 41 rfl w.heap.size 61 aS (.agg #[I_ 0,I_ 0,I_ 0,I_ 0]) 4 32 Tryz.underlying41 hi hz0 hz1 hz2 rfl (by decide) f k (dC (kM s 0 k)) rfl (oa_ (World.ownsRow.drew (World.ownsRow.drew (oa_ HO.o (c_ #[I_ p0,I_ p1,I_ p2,I_ (p3+p4*256)] 61)))) _) (a_ (wr.heap.size+1) 0) 1 1 [I_ p0,I_ p1,I_ p2,I_ (p3+p4*256)] rfl rfl (jw (by simp)) (by intro u hu;simp at hu;rcases hu with rfl | rfl | rfl | rfl <;> rfl) (by unfold maxLen;omega) (by omega) (by simp;omega) ?_;intro v2 w2 dw bS _))
    have nY:B_ w w2:=((((hbel.alloc aez _).drew).drew).alloc (by show w.heap.size<=(wr.alloc _).heap.size;simp;omega) _).grown bS (by simp;omega) (fun k' h=>(ol_ HO.o k' h).1);rw [<-HST.o] at dw;clear bS x0 x1 x2 x3 x4
    go_roundw
    case rel=>exact⟨k+1,_,hk1,by have:=HA.o;go_num,rfl,nY,dw⟩
    case measure=>simp [intOf];omega
  .have hke:k=s.size / 5:=by omega
   subst hke;go_wp2;go_ret;exact⟨_,rfl,hbel,fH⟩
def nE (s:Y_):Nat:=(bt s 2).toNat
def nR (s:Y_):Nat:=(bt s 3).toNat
def nC (s:Y_):Nat:=(pr s 4).toNat
def Form (s:Y_):Prop:=6<=s.size/\bt s 0=87/\bt s 1=82/\s.size=6+2*nE s+3*nR s+5*nC s
def eX (s:Y_):oC:=⟨jX s 6 (nE s),dE s (6+2*nE s) (nR s),kM s (6+2*nE s+3*nR s) (nC s)⟩
theorem iL (s:Y_) (a b i:Nat) (_hb:b<=s.size) (hi:a+i<b):bt (s.extract a b) i=bt s (a+i):=by
 unfold bt;have e:(s.extract a b).data=s.data.extract a b:=by simp
 rw [e];have e2:(s.data.extract a b).toList=(s.data.toList.drop a).take (b-a):=by simp
 rw [e2];simp only [gd_,List.getElem?_take,List.getElem?_drop];rw [if_pos (by omega)]
theorem Ji (s:Y_) (a b k:Nat) (hb:b<=s.size) (hk:a+2*k<=b):jX (s.extract a b) 0 k=jX s a k:=by unfold jX;apply List.map_congr_left;intro i hi;have hi':=List.mem_range.1 hi;unfold pr;rw [iL s a b _ hb (by omega),iL s a b _ hb (by omega),Nat.zero_add,Nat.add_assoc]
theorem G5 (s:Y_) (a b k:Nat) (hb:b<=s.size) (hk:a+3*k<=b):dE (s.extract a b) 0 k=dE s a k:=by unfold dE;apply List.map_congr_left;intro i hi;have hi':=List.mem_range.1 hi;rw [iL s a b _ hb (by omega),iL s a b _ hb (by omega),iL s a b _ hb (by omega),Nat.zero_add,<-Nat.add_assoc,<-Nat.add_assoc]
theorem Jg (s:Y_) (a b k:Nat) (hb:b<=s.size) (hk:a+5*k<=b):kM (s.extract a b) 0 k=kM s a k:=by unfold kM;apply List.map_congr_left;intro i hi;have hi':=List.mem_range.1 hi;unfold pr;rw [iL s a b _ hb (by omega),iL s a b _ hb (by omega),iL s a b _ hb (by omega),iL s a b _ hb (by omega),iL s a b _ hb (by omega),Nat.zero_add];simp only [Nat.add_assoc]
def IZ (s:Y_) (w:W_) (e:Ending) (w':W_):Prop:=
 (Form s/\∃ve vr vc,e=.returned (.tuple #[.agg #[ve,vr,vc],.bool true])/\B_ w w'/\w'.ownsRow w.heap.size 3 1 ve (nE s) (bY (eX s).ents)/\w'.ownsRow w.heap.size 59 3 vr (nR s) (eG (eX s).rules)/\w'.ownsRow w.heap.size 61 4 vc (nC s) (dC (eX s).code))\/
 (¬Form s/\e=.returned (.tuple #[.agg #[n_,n_,n_],.bool false])/\B_ w w')
theorem QD (s:Y_) (w:W_) (hs:s.size<=9223372036854775807) (hF:¬(6<=s.size/\bt s 0=87/\bt s 1=82)) :
  C_ 76 #[.string s] w (IZ s w):=by
 have HN:Hid (¬Form s):=fun h=>hF ⟨h.1,h.2.1,h.2.2.1⟩
 have FIN:=bK ((Br_ w.heap.size w).alloc di (c_ #[n_,n_,n_] 43));by_cases h6:s.size<6
 .have hd:decide ((s.size:Int)<6)=true:=by simp;omega
  clear hF;go_enter Tryz.func76,Tryz.ntmps76;go_wp2;exact br_ (v:=.tuple #[.agg #[n_,n_,n_],.bool false]) (by simp [results,Tryz.results76,go_sem]) rfl (.inr ⟨HN.o,rfl,FIN.o⟩)
 have hd:decide ((s.size:Int)<6)=false:=by simp;omega
 have x0:=fun w=>dU s 0 0 rfl (by omega) w
 have x1:=fun w=>dU s 1 1 rfl (by omega) w
 have b0:=iC s 0;have b1:=iC s 1;generalize bt s 0=p0 at *;generalize bt s 1=p1 at *;have k0:(0:Int)<s.size:=by omega
 have k1:(1:Int)<s.size:=by omega
 by_cases h87:p0=87
 focus
  have e0:(p0 != 87)=false:=by simpa using h87
  have e1:(p1 != 82)=true:=by simp;omega
 rotate_left
 focus have e0:(p0 != 87)=true:=by simpa using h87
 all_goals
  clear hF h87;go_enter Tryz.func76,Tryz.ntmps76;go_wp2;exact br_ (v:=.tuple #[.agg #[n_,n_,n_],.bool false]) (by simp [results,Tryz.results76,go_sem]) rfl (.inr ⟨HN.o,rfl,FIN.o⟩)
theorem V6 (s:Y_) (w:W_) (hs:s.size<=9223372036854775807) (h6:6<=s.size) (h87:bt s 0=87) (h82:bt s 1=82) :
  C_ 76 #[.string s] w (IZ s w):=by
 have hd:decide ((s.size:Int)<6)=false:=by simp;omega
 have x0:=fun w=>dU s 0 0 rfl (by omega) w
 have x1:=fun w=>dU s 1 1 rfl (by omega) w
 have x2:=fun w=>dU s 2 2 rfl (by omega) w
 have x3:=fun w=>dU s 3 3 rfl (by omega) w
 have x4:=fun w=>dU s 4 4 rfl (by omega) w
 have x5:=fun w=>dU s 5 5 rfl (by omega) w
 have b2:=iC s 2;have b3:=iC s 3;have b4:=iC s 4;have b5:=iC s 5;rw [h87] at x0;rw [h82] at x1
 have HF:Hid (Form s↔s.size=6+2*nE s+3*nR s+5*nC s):=⟨fun h=>h.2.2.2,fun h=>⟨h6,h87,h82,h⟩⟩
 have e2:bt s 2=((nE s:Nat):Int):=by unfold nE;omega
 have e3:bt s 3=((nR s:Nat):Int):=by unfold nR;omega
 have e4:bt s 4+bt s 5*256=((nC s:Nat):Int):=by have:nC s=(bt s 4+bt s 5*256).toNat:=rfl;omega
 rw [e2] at x2 b2;rw [e3] at x3 b3;have E4:=bK e4;have hn:nC s<=65535:=by have:=iC s 5;omega
 clear e2 e3 e4 h87 h82;have k0:(0:Int)<s.size:=by omega
 have k1:(1:Int)<s.size:=by omega
 have k2:(2:Int)<s.size:=by omega
 have k3:(3:Int)<s.size:=by omega
 have k4:(4:Int)<s.size:=by omega
 have k5:(5:Int)<s.size:=by omega
 generalize bt s 4=p4 at *;generalize bt s 5=p5 at *;have HB0:=bK ((Br_ w.heap.size w).alloc di (c_ #[n_,n_,n_] 43));have hblk:dh (w.alloc (c_ #[n_,n_,n_] 43)) w.heap.size 43 [n_,n_,n_]:=hn_ _ _;have HBK:=bK hblk;clear hblk;go_enter Tryz.func76,Tryz.ntmps76
 go_wp2_with fail
 go_quiet ((go_at_call 110;exact Calls.quiet_of_same (VO _ _ _ b4 b5)));rw [E4.o];have bX:B_ w ((w.alloc (c_ #[n_,n_,n_] 43)).drewN nq):=bd_ HB0.o nq;have kX:dh ((w.alloc (c_ #[n_,n_,n_] 43)).drewN nq) w.heap.size 43 [n_,n_,n_]:=HBK.o;have sX:((w.alloc (c_ #[n_,n_,n_] 43)).drewN nq).heap.size=w.heap.size+1:=by simp
 generalize (w.alloc (c_ #[n_,n_,n_] 43)).drewN nq=X at *;clear x0 x1 x2 x3 x4 x5 HB0 HBK;have SX:=bK sX;clear sX;by_cases hsz:s.size=6+2*nE s+3*nR s+5*nC s
 .have hb:((s.size:Int) != 6+(nE s:Int)*2+(nR s:Int)*3+(nC s:Int)*5)=false:=by simp;omega
  have hl1:s.size<=6+2*nE s+3*nR s+5*nC s:=by omega
  have hl2:6+2*nE s+3*nR s+5*nC s<=s.size:=by omega
  have Xn:=bK hsz;clear hsz
  go_wp2_with fail
  refine (Cr _ _ (by simp;omega)).mono ?_
  rintro e w1 ⟨ve,rfl,hB1,ho1⟩;have z1:(s.extract 6 (6+nE s*2)).size / 2=nE s:=by simp;omega
  rw [z1,Ji s 6 _ _ (by omega) (by omega),SX.o] at ho1;clear z1;have HO1:=bK ho1;obtain⟨ae,ce,rfl,-,-,-⟩:=jT ho1;have Gr:=iT bX hB1;have k1':=bN kX hB1 (bO kX);have hs1:=hB1.size;rw [SX.o] at hs1;clear ho1 hB1 kX
  go_wp2_with fail
  refine (GM _ _ (by simp;omega)).mono ?_
  rintro e w2 ⟨vr,rfl,hB2,ho2⟩;have z2:(s.extract (6+nE s*2) (6+nE s*2+nR s*3)).size / 3=nR s:=by simp;omega
  rw [z2,G5 s _ _ _ (by omega) (by omega)] at ho2;clear z2;have Cf:=bK (dH (base':=w.heap.size+1) ho2 hs1);have afM:=bK (bU HO1.o hB2 di);obtain⟨ar,cr,rfl,-,-,-⟩:=jT ho2;have abw:=iT Gr hB2;have k2':=bN k1' hB2 (bO k1');have hs2:w.heap.size+1<=w2.heap.size:=by have:=hB2.size;omega
  clear ho2 hB2 k1' HO1
  go_wp2_with fail
  refine (JK _ _ (by simp;omega)).mono ?_
  rintro e w3 ⟨vc,rfl,hB3,ho3⟩;have z3:(s.extract (6+nE s*2+nR s*3) s.size).size / 5=nC s:=by simp;omega
  rw [z3,Jg s _ _ _ (by omega) (by omega)] at ho3;clear z3;have HO3:=bK (dH (base':=w.heap.size+1) ho3 hs2);have afN:=bK (bU afM.o hB3 di);have ai7:=bK (bU Cf.o hB3 di);obtain⟨ac,cc,rfl,-,-,-⟩:=jT ho3;have ajF:=iT abw hB3;have k3':=bN k2' hB3 (bO k2');have o0:=bP 0 k3' rfl;have o1:=bP 1 k3' rfl;have o2:=bP 2 k3' rfl;have f0:=bL k3' 0;have f1:=bL k3' 1;have f2:=bL k3' 2;clear ho3 hB3 k2' k3' afM Cf;go_wp2;refine br_ (v:=.tuple #[.agg #[.slice ae (nE s) ce,.slice ar (nR s) cr,.slice ac (nC s) cc],.bool true]) (by simp [results,Tryz.results76,go_sem,o0,o1,o2]) rfl (.inl ⟨HF.o.2 Xn.o,_,_,_,rfl,?_,?_,?_,?_⟩)
  .exact ((ajF.setCell di _).setCell di _).setCell di _
  .exact dH (ob_ (ob_ (ob_ afN.o (ls_ _) _) (ls_ _) _) (ls_ _) _) (Nat.le_succ _)
  .have e:(eX s).rules=dE s (6+nE s*2) (nR s):=by unfold eX;rw [Nat.mul_comm]
   rw [e];exact dH (ob_ (ob_ (ob_ ai7.o (ls_ _) _) (ls_ _) _) (ls_ _) _) (Nat.le_succ _)
  .have e:(eX s).code=kM s (6+nE s*2+nR s*3) (nC s):=by unfold eX;rw [Nat.mul_comm 2,Nat.mul_comm 3]
   rw [e];exact dH (ob_ (ob_ (ob_ HO3.o (ls_ _) _) (ls_ _) _) (ls_ _) _) (Nat.le_succ _)
 .have hb:((s.size:Int) != 6+(nE s:Int)*2+(nR s:Int)*3+(nC s:Int)*5)=true:=by simp;omega
  have Xn:=bK hsz;clear hsz;have o0:=bP 0 kX rfl;have o1:=bP 1 kX rfl;have o2:=bP 2 kX rfl;have f0:=bL kX 0;have f1:=bL kX 1;have f2:=bL kX 2;clear kX;go_wp2;refine br_ (v:=.tuple #[.agg #[n_,n_,n_],.bool false]) (by simp [results,Tryz.results76,go_sem,o0,o1,o2]) rfl (.inr ⟨fun h=>Xn.o (HF.o.1 h),rfl,?_⟩);exact ((bX.setCell di _).setCell di _).setCell di _
theorem ZY (s:Y_) (w:W_) (hs:s.size<=9223372036854775807):C_ 76 #[.string s] w (IZ s w):=by
 by_cases h:6<=s.size/\bt s 0=87/\bt s 1=82
 .exact V6 s w hs h.1 h.2.1 h.2.2
 .exact QD s w hs h
def I7 (code:Int) (s:Y_) (w:W_) (e:Ending) (w':W_):Prop:=
 (Form s/\iy (eX s)/\∃ve vr vc,e=.returned (.tuple #[.agg #[ve,vr,vc],I_ 0])/\B_ w w'/\w'.ownsRow w.heap.size 3 1 ve (nE s) (bY (eX s).ents)/\w'.ownsRow w.heap.size 59 3 vr (nR s) (eG (eX s).rules)/\w'.ownsRow w.heap.size 61 4 vc (nC s) (dC (eX s).code))\/
 (¬(Form s/\iy (eX s))/\e=.returned (.tuple #[.agg #[n_,n_,n_],I_ code])/\B_ w w')
theorem Rh (s:Y_) (w:W_) (hs:s.size<=9223372036854775807) :
  C_ 47 #[.string s] w (I7 2 s w):=by
 have HB0:=bK ((Br_ w.heap.size w).alloc di (c_ #[n_,n_,n_] 43));have kX:dh (w.alloc (c_ #[n_,n_,n_] 43)) w.heap.size 43 [n_,n_,n_]:=hn_ _ _;have sX:(w.alloc (c_ #[n_,n_,n_] 43)).heap.size=w.heap.size+1:=by simp
 have WN:=bK kX;have SX:=bK sX;clear kX sX;go_enter Tryz.func47,Tryz.ntmps47
 go_wp2_with fail
 refine (ZY s _ hs).mono ?_
 rintro e w1 (⟨hF,ve,vr,vc,rfl,hB1,he,hr,hc⟩ | ⟨hF,rfl,hB1⟩)
 all_goals
  have k1:=bN WN.o hB1 (bO WN.o);have Gr:B_ w w1:=HB0.o.trans (hB1.mono (by rw [SX.o];omega))
 .rw [SX.o] at he hr hc;have HO:=bK (And.intro he (And.intro hr hc));obtain⟨ae,ce,rfl,-,-,-⟩:=jT he;obtain⟨ar,cr,rfl,-,-,-⟩:=jT hr;obtain⟨ac,cc,rfl,-,-,-⟩:=jT hc;have o0:=bP 0 k1 rfl;have hsz1:w.heap.size<w1.heap.size:=bO k1;clear o0 he hr hc hB1;have HF:=bK hF;clear hF
  go_wp2_with fail
  have HK1:=bK (dx k1 (c_ #[.slice ae (nE s) ce,.slice ar (nR s) cr,.slice ac (nC s) cc] 43));have HP1:Hid (dh (w1.alloc (c_ #[.slice ae (nE s) ce,.slice ar (nR s) cr,.slice ac (nC s) cc] 43)) w1.heap.size 43 [.slice ae (nE s) ce,.slice ar (nR s) cr,.slice ac (nC s) cc]):=hn_ _ _;have HBA:=bK (Gr.alloc (by omega) (c_ #[.slice ae (nE s) ce,.slice ar (nR s) cr,.slice ac (nC s) cc] 43));clear k1;refine (V7 _ _ _ (eX s) _ (zM (oa_ HO.o.1 _) (uT _ _ _).symm) (Bc (oa_ HO.o.2.1 _) (nk _ _ _).symm) (EU (oa_ HO.o.2.2 _) (yB _ _ _).symm)).mono ?_
  rintro e w2 ⟨bb,rfl,hbb,hB2⟩;have k2:=bN HK1.o hB2 (bO HK1.o);have p2:=bN HP1.o hB2 (bO HP1.o);have abw:B_ w w2:=HBA.o.trans (hB2.mono (by simp;omega));have Cf:=bK (And.intro (bU (oa_ HO.o.1 (c_ #[.slice ae (nE s) ce,.slice ar (nR s) cr,.slice ac (nC s) cc] 43)) hB2 di) (And.intro (bU (oa_ HO.o.2.1 (c_ #[.slice ae (nE s) ce,.slice ar (nR s) cr,.slice ac (nC s) cc] 43)) hB2 di) (bU (oa_ HO.o.2.2 (c_ #[.slice ae (nE s) ce,.slice ar (nR s) cr,.slice ac (nC s) cc] 43)) hB2 di)));have o0:=bP 0 k2 rfl;have o1:=bP 1 k2 rfl;have o2:=bP 2 k2 rfl;have f0:=bL k2 0;have f1:=bL k2 1;have f2:=bL k2 2;have aW:=bP 0 p2 rfl;have q1:=bP 1 p2 rfl;have q2:=bP 2 p2 rfl;clear k2 p2 HK1 HP1 HBA HO hB2;have hne:w1.heap.size≠w.heap.size:=by omega
  cases bb
  .have HN:Hid (¬(Form s/\iy (eX s))):=fun h=>Bool.noConfusion (hbb.2 h.2)
   clear hbb;go_wp2;refine br_ (v:=.tuple #[.agg #[n_,n_,n_],I_ 2]) (by simp [results,Tryz.results47,go_sem,o0,o1,o2]) rfl (.inr ⟨HN.o,rfl,?_⟩);exact ((abw.setCell di _).setCell di _).setCell di _
  .have HN:=bK (hbb.1 rfl);clear hbb;go_wp2;refine br_ (v:=.tuple #[.agg #[.slice ae (nE s) ce,.slice ar (nR s) cr,.slice ac (nC s) cc],I_ 0]) (by simp [results,Tryz.results47,go_sem,o0,o1,o2]) rfl (.inl ⟨HF.o,HN.o,_,_,_,rfl,?_,?_,?_,?_⟩)
   .exact ((abw.setCell di _).setCell di _).setCell di _
   .exact dH (ob_ (ob_ (ob_ Cf.o.1 (ls_ _) _) (ls_ _) _) (ls_ _) _) (Nat.le_succ _)
   .exact dH (ob_ (ob_ (ob_ Cf.o.2.1 (ls_ _) _) (ls_ _) _) (ls_ _) _) (Nat.le_succ _)
   .exact dH (ob_ (ob_ (ob_ Cf.o.2.2 (ls_ _) _) (ls_ _) _) (ls_ _) _) (Nat.le_succ _)
 .have HN:Hid (¬(Form s/\iy (eX s))):=fun h=>hF h.1
  have hsz1:w.heap.size<w1.heap.size:=bO k1;have hne:w1.heap.size≠w.heap.size:=by omega
  have o0:=bP 0 k1 rfl;have o1:=bP 1 k1 rfl;have o2:=bP 2 k1 rfl;have f0:=bL k1 0;have f1:=bL k1 1;have f2:=bL k1 2;clear hF hB1 k1;go_wp2;refine br_ (v:=.tuple #[.agg #[n_,n_,n_],I_ 2]) (by simp [results,Tryz.results47,go_sem,o0,o1,o2,hsz1]) rfl (.inr ⟨HN.o,rfl,?_⟩);exact (((Gr.setCell di _).setCell di _).setCell di _).alloc (by simp;omega) _
theorem iJ {w:W_} {base e size n:Nat} {v:V_} {xs:List V_} (h:w.ownsRow base e size v n xs) (m:Nat):(w.drewN m).ownsRow base e size v n xs:=h
theorem fC {W w':W_} {base e size n base' e' size' n':Nat} {v v':V_} {xs xs':List V_} (h:W.ownsRow base e size v n xs) (h':W.ownsRow base' e' size' v' n' xs') (ht:e≠e') (hg:W.grownBy w' v'.ownBlock):w'.ownsRow base e size v n xs:=by
 refine World.ownsRow.kept h hg ?_
 rcases h.2 with ⟨rfl,_⟩ | ⟨g,cap,cur,rfl,_,hgg,_⟩
 .exact .inl rfl
 .rcases h'.2 with ⟨rfl,_⟩ | ⟨g',cap',cur',rfl,_,aer,_⟩
  .right;simp [Value.ownBlock]
  .right;simp only [Value.ownBlock,ne_eq,Option.some.injEq];intro e;subst e;rw [hgg] at aer;simp at aer;exact ht aer.2
theorem wL {w:W_} {g t:Nat} {xs:List V_} (h:dh w g t xs) (n:Nat):dh (w.drewN n) g t xs:=h
namespace Pu
theorem oH.zq {ls:List aC} {mode:Int} {w:List Nat} {r r':Int} (h:oH ls mode w r) (h':oH ls mode w r'):r=r':=by
 rcases h with ⟨e1,h1⟩ | ⟨i,x,e1,h1,h2,h3,h4⟩
 .rcases h' with ⟨e2,_⟩ | ⟨j,y,_,g1,g2,g3,_⟩
  .rw [e1,e2]
  .exact absurd g3 (h1 j y g1 g2)
 .rcases h' with ⟨_,g1⟩ | ⟨j,y,e2,g1,g2,g3,g4⟩
  .exact absurd h3 (g1 i x h1 h2)
  .rcases Nat.lt_trichotomy i j with c | c | c
   .exact absurd h3 (g4 i x c h1 h2)
   .rw [e1,e2,c]
   .exact absurd g3 (h4 j y c g1 g2)
theorem acY {s:Y_} {p n:Nat} (h:p+n<=s.size):qH (s.extract p (p+n))=wd s p n:=by
 have e:(s.extract p (p+n)).size=n:=by rw [ByteArray.size_extract];omega
 unfold qH wd;rw [e];refine List.map_congr_left (fun i hi=>?_);rw [iL s p (p+n) i h (by have:=List.mem_range.1 hi;omega)]
section
variable {E:bH} {C:bI} {K:List aA} {st:List Nat} {n:Nat} {D:bI}
def AtS (E:bH) (C:bI) (K:List aA) (n:Nat) (D:bI):Prop:=∃s i c,D=Sk E C K n (mk K E.s C.pos.toNat (n+1)) s i c
theorem Yc (hF:ze E C) (hK:KOK K) (h:AtK E C K st n D) (hon:¬OnK K (wd E.s C.pos.toNat n)):∃D' F,qF E D D'/\AtS E C K n D'/\look E D'=.stop F 0/\AtS E C K n F:=by
 obtain⟨steps,c,i,rfl,⟨k,h1,h2,h3,h4⟩ | ⟨h1,h2⟩⟩:=h
 .have hz:(iF k.longer).length=0:=(Om _).2 (fun c hc=>by
   apply Classical.byContradiction;intro h0;refine hon ⟨h1,c,hc,?_⟩;unfold Xc;rw [h2]
   exact h0)
  obtain⟨s',hr⟩:=Na (st:=st) (steps:=steps) (c:=c) hF hK h1 h2 h4;have hx:=h4 _ _ ((Er k).1 hz);exact⟨_,_,hr,⟨_,_,_,rfl⟩,adx rfl hx,⟨_,_,_,rfl⟩⟩
 .have hm:mk K E.s C.pos.toNat (n+1)=mk K E.s C.pos.toNat n:=by
   show (if _ then _ else _)=_;rw [if_neg];intro hh;refine hh.2 ?_
   unfold RK;rcases h1 with h1 | h1
   .rw [if_pos h1]
   .split
    .rfl
    .rename_i hl
     rw [h1];exact (hK.none (by omega)).2
  unfold AtS;rw [hm];exact⟨_,_,.refl _,⟨_,_,_,rfl⟩,adx rfl h2,⟨_,_,_,rfl⟩⟩
theorem Yb (hF:ze E C) (hK:KOK K) (h:AtK E C K st n D) (hon:OnK K (wd E.s C.pos.toNat n)):∃D' F,qF E D D'/\AtS E C K n D'/\AtS E C K n F/\((E.s.size:Int)<=C.pos+n->look E D'=if E.ended=true then .stop F 0 else .wait)/\(C.pos+n<E.s.size->E.most<=n->look E D'=.stop F 5):=by
 obtain⟨s',c,i,k,hr,hx,_⟩:=R7 hF hK h hon;refine⟨_,Sk E C K n (mk K E.s C.pos.toNat (n+1)) (s'+1) ((i:Int)+1) c,hr,⟨_,_,_,rfl⟩,⟨_,_,_,rfl⟩,fun hs=>?_,fun hs hm=>?_⟩
 all_goals
  rw [adw (D:=Sk E C K n (mk K E.s C.pos.toNat (n+1)) s' (i:Int) c) rfl hx]
 .have:(E.s.size:Int)<=(Sk E C K n (mk K E.s C.pos.toNat (n+1)) s' (i:Int) c).pos+(Sk E C K n (mk K E.s C.pos.toNat (n+1)) s' (i:Int) c).looked:=hs;rw [if_pos this];rfl
 .have h1:¬(E.s.size:Int)<=(Sk E C K n (mk K E.s C.pos.toNat (n+1)) s' (i:Int) c).pos+(Sk E C K n (mk K E.s C.pos.toNat (n+1)) s' (i:Int) c).looked:=by show ¬(E.s.size:Int)<=C.pos+n;omega
  have h2:E.most<=(Sk E C K n (mk K E.s C.pos.toNat (n+1)) s' (i:Int) c).looked:=hm;rw [if_neg h1,if_pos h2];rfl
end
end Pu
end Go.Proofs.YtmccnmgaoppogaaGreat
