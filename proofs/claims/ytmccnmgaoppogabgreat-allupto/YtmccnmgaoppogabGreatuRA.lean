import Derived.Test.YtmccnmgaoppogabGreatuWA
namespace Go.Proofs.YtmccnmgaoppogabGreat
open Pu
set_option linter.all false
open Go.Proofs.Tryz Tryz
set_option maxRecDepth 100000
set_option maxHeartbeats 8000000
open Go.RowKit
theorem IM(s:Y_)(w:W_)(N:s.size<=1000000) :
  Calls prog 89 #[.string s] w (Ky 48 3 (s.size / 3) (dP (dJ s 0 (s.size / 3))) w):=by
 obtain⟨aS,r,e,g,j⟩:=ip_ info48;go_in;go_wp2_with (at_make;refine wpList_make_own _ rfl _ _ 39 rfl w.heap.size 48 aS (.agg #[I_ 0,I_ 0,I_ 0]) 3 underlying39 r e g _ _ _ (s.size / 3) rfl rfl o_ (by rw[j];omega) (by unfold maxLen;omega) dF ?_;intro B d a);have b:B_ w B:=(Br_ _ _).grown a dF (fun k h=>by cases h);have c:=bL d;clear d a;go_loopw [3,4] (fun f i wr=>∃(k:Nat) (a:V_),k<=s.size / 3/\i=I_ ((3*k:Nat):Int)/\a=f/\B_ w wr/\wr.ownsRow w.heap.size 48 3 a k (dP (dJ s 0 k))) (fun _ i _=>s.size+3-(intOf i).toNat);exact⟨0,_,zl_ _,rfl,rfl,b,c.o⟩;clear c b;obtain⟨k,f,L,rfl,rfl,b,l⟩:=hrel;by_cases z:3*k+3<=s.size
 .have n:k+1<=s.size / 3:=o_;have a:=Hd s 0 k;have d:=bL a;clear a;rw[Nat.zero_add]at d;generalize c:3*k=a at *;have y:=bL c;clear c;have F:=fun w=>eB s (a:Int) a rfl o_ w;have I:=iM s a;have G:=fun w=>eB s ((a:Int)+1) (a+1) o_ o_ w;have J:=iM s (a+1);have H:=fun w=>eB s ((a:Int)+2) (a+2) o_ o_ w;have K:=iM s (a+2);generalize bt s a=t at *;generalize bt s (a+1)=v at *;generalize bt s (a+2)=x at *;have O:=jJ a;have S:(a:Int)<s.size:=o_;have Q:(0:Int)<=a+1:=o_;have T:(a:Int)+1<(s.size:Int):=o_;have D:=kZ a;have R:(0:Int)<=a+2:=o_;have U:(a:Int)+2<(s.size:Int):=o_;have E:=yL ((a:Int)+2);have c:=bL l;clear l;have i:=b.size;go_wp2_with fail;go_region;go_wp2_with (at_builtin;refine wo_ _ rfl (.tmp 32) (.tmp 34) 39 rfl w.heap.size 48 aS (.agg #[I_ 0,I_ 0,I_ 0]) 3 24 underlying39 r e g j rfl d_ f k (dP (dJ s 0 k)) rfl (oa_ (World.ownsRow.drew (oa_ c.o (c_ #[I_ t,I_ v,I_ x] 48))) _) (a_ (wr.heap.size+1) 0) 1 1 [I_ t,I_ v,I_ x] rfl rfl (jc i_) (by intro u p;simp at p;rcases p with rfl | rfl | rfl <;> rfl) (by unfold maxLen;omega) o_ (by simp;omega) ?_;intro V C q p _);have A:B_ w C:=(((b.alloc i _).drew).alloc (by show w.heap.size<=(wr.alloc _).heap.size;simp;omega) _).grown p (by simp;omega) (fun u h=>(ol_ c.o u h).1);rw[<-d.o]at q;clear p F G H;go_roundw;case rel=>exact⟨k+1,_,n,by have:=y.o;go_num,rfl,A,q⟩
  case measure=>simp[intOf];omega
 .have a:k=s.size / 3:=o_;subst a;go_wp2;go_ret;exact⟨_,rfl,b,l⟩
theorem Mg(s:Y_)(w:W_)(X:s.size<=1000000) :
  Calls prog 90 #[.string s] w (Ky 50 4 (s.size / 5) (dw (lS s 0 (s.size / 5))) w):=by
 obtain⟨aS,v,g,j,l⟩:=ip_ info50;go_in;go_wp2_with (at_make;refine wpList_make_own _ rfl _ _ 40 rfl w.heap.size 50 aS (.agg #[I_ 0,I_ 0,I_ 0,I_ 0]) 4 underlying40 v g j _ _ _ (s.size / 5) rfl rfl o_ (by rw[l];omega) (by unfold maxLen;omega) dF ?_;intro G d a);have b:B_ w G:=(Br_ _ _).grown a dF (fun k h=>by cases h);have c:=bL d;clear d a;go_loopw [3,4] (fun f i wr=>∃(k:Nat) (a:V_),k<=s.size / 5/\i=I_ ((5*k:Nat):Int)/\a=f/\B_ w wr/\wr.ownsRow w.heap.size 50 4 a k (dw (lS s 0 k))) (fun _ i _=>s.size+5-(intOf i).toNat);exact⟨0,_,zl_ _,rfl,rfl,b,c.o⟩;clear c b;obtain⟨k,f,W,rfl,rfl,b,n⟩:=hrel;by_cases D:5*k+5<=s.size
 .have p:k+1<=s.size / 5:=o_;have a:=Jq s 0 k;have d:=bL a;clear a;rw[Nat.zero_add]at d;generalize c:5*k=a at *;have C:=bL c;clear c;have N:=fun w=>eB s (a:Int) a rfl o_ w;have T:=iM s a;have O:=fun w=>eB s ((a:Int)+1) (a+1) o_ o_ w;have U:=iM s (a+1);have Q:=fun w=>eB s ((a:Int)+2) (a+2) o_ o_ w;have V:=iM s (a+2);have R:=fun w=>eB s ((a:Int)+3) (a+3) o_ o_ w;have q:=iM s (a+3);have S:=fun w=>eB s ((a:Int)+4) (a+4) o_ o_ w;have r:=iM s (a+4);generalize bt s a=x at *;generalize bt s (a+1)=y at *;generalize bt s (a+2)=z at *;generalize bt s (a+3)=A at *;generalize bt s (a+4)=B at *;have Y:=jJ a;have k0:(a:Int)<s.size:=o_;have Z:(0:Int)<=a+1:=o_;have k1:(a:Int)+1<(s.size:Int):=o_;have I:=kZ a;have j2:(0:Int)<=a+2:=o_;have k2:(a:Int)+2<(s.size:Int):=o_;have J:=yL ((a:Int)+2);have j3:(0:Int)<=a+3:=o_;have k3:(a:Int)+3<(s.size:Int):=o_;have K:=yL ((a:Int)+3);have j4:(0:Int)<=a+4:=o_;have k4:(a:Int)+4<(s.size:Int):=o_;have L:=yL ((a:Int)+4);have c:=bL n;clear n;have i:=b.size;go_wp2_with fail;go_region_held3 (fun _=>True) (trivial) (first | (go_at_call 87;refine (GN _ _ _ q.1 q.2 r.1 r.2).mono ?_;rintro e w' ⟨rfl,rfl⟩));all_goals go_wp2_with fail
  all_goals go_region
  all_goals
   go_wp2_with (at_builtin;go_must (refine wo_ _ rfl (.tmp 43) (.tmp 45) 40 rfl w.heap.size 50 aS (.agg #[I_ 0,I_ 0,I_ 0,I_ 0]) 4 32 underlying40 v g j l rfl d_ f k (dw (lS s 0 k)) rfl (oa_ (World.ownsRow.drew (World.ownsRow.drew (oa_ c.o (c_ #[I_ x,I_ y,I_ z,I_ (A+B*256)] 50)))) _) (a_ (wr.heap.size+1) 0) 1 1 [I_ x,I_ y,I_ z,I_ (A+B*256)] rfl rfl (jc i_) (by intro u t;simp at t;rcases t with rfl | rfl | rfl | rfl <;> rfl) (by unfold maxLen;omega) o_ (by simp;omega) ?_;intro v2 H u t _));have F:B_ w H:=((((b.alloc i _).drew).drew).alloc (by show w.heap.size<=(wr.alloc _).heap.size;simp;omega) _).grown t (by simp;omega) (fun E h=>(ol_ c.o E h).1);rw[<-d.o]at u;clear t N O Q R S;go_roundw;case rel=>exact⟨k+1,_,p,by have:=C.o;go_num,rfl,F,u⟩
   case measure=>simp[intOf];omega
 .have a:k=s.size / 5:=o_;subst a;go_wp2;go_ret;exact⟨_,rfl,b,n⟩
def nE(s:Y_):Nat:=(bt s 2).toNat
def nR(s:Y_):Nat:=(bt s 3).toNat
def nC(s:Y_):Nat:=(pr s 4).toNat
def Form(s:Y_):Prop:=6<=s.size/\bt s 0=87/\bt s 1=82/\s.size=6+2*nE s+3*nR s+5*nC s
def eG(s:Y_):lZ:=⟨kQ s 6 (nE s),dJ s (6+2*nE s) (nR s),lS s (6+2*nE s+3*nR s) (nC s)⟩
theorem jb(s:Y_)(a b i:Nat)(c:b<=s.size)(f:a+i<b):bt (s.extract a b) i=bt s (a+i):=by
 unfold bt;have e:(s.extract a b).data=s.data.extract a b:=i_;rw[e];have d:(s.data.extract a b).toList=(s.data.toList.drop a).take (b-a):=i_;rw[d];simp only[gd_,List.getElem?_take,List.getElem?_drop];rw[if_pos o_]
theorem Lf(s:Y_)(a b k:Nat)(c:b<=s.size)(f:a+2*k<=b):kQ (s.extract a b) 0 k=kQ s a k:=by unfold kQ;apply List.map_congr_left;intro i d;have e:=List.mem_range.1 d;unfold pr;rw[jb s a b _ c o_,jb s a b _ c o_,Nat.zero_add,Nat.add_assoc]
theorem IX(s:Y_)(a b k:Nat)(c:b<=s.size)(f:a+3*k<=b):dJ (s.extract a b) 0 k=dJ s a k:=by unfold dJ;apply List.map_congr_left;intro i d;have e:=List.mem_range.1 d;rw[jb s a b _ c o_,jb s a b _ c o_,jb s a b _ c o_,Nat.zero_add,<-Nat.add_assoc,<-Nat.add_assoc]
theorem Ld(s:Y_)(a b k:Nat)(c:b<=s.size)(f:a+5*k<=b):lS (s.extract a b) 0 k=lS s a k:=by unfold lS;apply List.map_congr_left;intro i d;have e:=List.mem_range.1 d;unfold pr;rw[jb s a b _ c o_,jb s a b _ c o_,jb s a b _ c o_,jb s a b _ c o_,jb s a b _ c o_,Nat.zero_add];simp only[Nat.add_assoc]
def Kw(s:Y_)(w:W_)(e:Ending)(w':W_):Prop:=
 (Form s/\∃b c a,e=.returned (.tuple #[.agg #[b,c,a],.bool true])/\B_ w w'/\w'.ownsRow w.heap.size 3 1 b (nE s) (bY (eG s).ents)/\w'.ownsRow w.heap.size 48 3 c (nR s) (dP (eG s).rules)/\w'.ownsRow w.heap.size 50 4 a (nC s) (dw (eG s).code))\/
 (¬Form s/\e=.returned (.tuple #[.agg #[n_,n_,n_],.bool false])/\B_ w w')
theorem TQ(s:Y_)(w:W_)(n:s.size<=9223372036854775807)(hF:¬(6<=s.size/\bt s 0=87/\bt s 1=82)) :
  C_ 60 #[.string s] w (Kw s w):=by
 have d:Hid (¬Form s):=fun h=>hF ⟨h.1,h.2.1,h.2.2.1⟩;have b:=bL ((Br_ w.heap.size w).alloc dF (c_ #[n_,n_,n_] 42));by_cases l:s.size<6
 .have f:decide ((s.size:Int)<6)=true:=by simp;omega
  clear hF;go_enter func60,ntmps60;go_wp2;exact br_ (v:=.tuple #[.agg #[n_,n_,n_],.bool false]) (by simp[results,results60,go_sem]) rfl (.inr ⟨d.o,rfl,b.o⟩)
 have f:decide ((s.size:Int)<6)=false:=by simp;omega
 have r:=fun w=>eB s 0 0 rfl o_ w;have t:=fun w=>eB s 1 1 rfl o_ w;have i:=iM s 0;have j:=iM s 1;generalize bt s 0=c at *;generalize bt s 1=g at *;have p:(0:Int)<s.size:=o_;have q:(1:Int)<s.size:=o_;by_cases a:c=87;have e:(c != 87)=false:=by simpa using a
 have k:(g != 82)=true:=by simp;omega
 rotate_left;focus have e:(c != 87)=true:=by simpa using a
 all_goals
  clear hF a;go_enter func60,ntmps60;go_wp2;exact br_ (v:=.tuple #[.agg #[n_,n_,n_],.bool false]) (by simp[results,results60,go_sem]) rfl (.inr ⟨d.o,rfl,b.o⟩)
theorem Yr(s:Y_)(w:W_)(hs:s.size<=9223372036854775807)(V:6<=s.size)(i:bt s 0=87)(g:bt s 1=82) :
  Calls prog 60 #[.string s] w (Kw s w):=by
 have hd:decide ((s.size:Int)<6)=false:=by simp;omega
 have e:=fun w=>eB s 0 0 rfl o_ w;have f:=fun w=>eB s 1 1 rfl o_ w;have j:=fun w=>eB s 2 2 rfl o_ w;have k:=fun w=>eB s 3 3 rfl o_ w;have l:=fun w=>eB s 4 4 rfl o_ w;have n:=fun w=>eB s 5 5 rfl o_ w;have J:=iM s 2;have K:=iM s 3;have L:=iM s 4;have N:=iM s 5;rw[i]at e;rw[g]at f;have A:Hid (Form s↔s.size=6+2*nE s+3*nR s+5*nC s):=⟨fun h=>h.2.2.2,fun h=>⟨V,i,g,h⟩⟩;have a:bt s 2=((nE s:Nat):Int):=by unfold nE;omega
 have b:bt s 3=((nR s:Nat):Int):=by unfold nR;omega
 have c:bt s 4+bt s 5*256=((nC s:Nat):Int):=by have:nC s=(bt s 4+bt s 5*256).toNat:=rfl;omega
 rw[a]at j J;rw[b]at k K;have E:=bL c;have hn:nC s<=65535:=by have:=iM s 5;omega
 clear a b c i g;have k0:(0:Int)<s.size:=o_;have k1:(1:Int)<s.size:=o_;have k2:(2:Int)<s.size:=o_;have k3:(3:Int)<s.size:=o_;have k4:(4:Int)<s.size:=o_;have k5:(5:Int)<s.size:=o_;generalize bt s 4=p4 at *;generalize bt s 5=p5 at *;have b:=bL ((Br_ w.heap.size w).alloc dF (c_ #[n_,n_,n_] 42));have a:dh (w.alloc (c_ #[n_,n_,n_] 42)) w.heap.size 42 [n_,n_,n_]:=hn_ _ _;have d:=bL a;clear a;go_in;go_wp2_with fail;go_quiet ((go_at_call 87;exact Calls.quiet_of_same (Yg _ _ _ L N)));rw[E.o];have C:B_ w ((w.alloc (c_ #[n_,n_,n_] 42)).drewN nq):=bd_ b.o nq;have c:dh ((w.alloc (c_ #[n_,n_,n_] 42)).drewN nq) w.heap.size 42 [n_,n_,n_]:=d.o;have a:((w.alloc (c_ #[n_,n_,n_] 42)).drewN nq).heap.size=w.heap.size+1:=i_;generalize (w.alloc (c_ #[n_,n_,n_] 42)).drewN nq=X at *;clear e f j k l n b d;have B:=bL a;clear a;by_cases f:s.size=6+2*nE s+3*nR s+5*nC s
 .have W:((s.size:Int) != 6+(nE s:Int)*2+(nR s:Int)*3+(nC s:Int)*5)=false:=by simp;omega
  have Y:s.size<=6+2*nE s+3*nR s+5*nC s:=o_;have Z:6+2*nE s+3*nR s+5*nC s<=s.size:=o_;have p:=bL f;clear f;go_wp2_with fail;refine (Ef _ _ (by simp;omega)).mono ?_;rintro e w1 ⟨ve,rfl,a,b⟩;have d:(s.extract 6 (6+nE s*2)).size / 2=nE s:=by simp;omega
  rw[d,Lf s 6 _ _ o_ o_,B.o]at b;clear d;have k:=bL b;obtain⟨H,Q,rfl,-,-,-⟩:=iO b;have zH:=ja C a;have d:=bO c a (bP c);have n:=a.size;rw[B.o]at n;clear b a c;go_wp2_with fail;refine (IM _ _ (by simp;omega)).mono ?_;rintro e w2 ⟨vr,rfl,a,b⟩;have j:(s.extract (6+nE s*2) (6+nE s*2+nR s*3)).size / 3=nR s:=by simp;omega
  rw[j,IX s _ _ _ o_ o_]at b;clear j;have z:=bL (dH (base':=w.heap.size+1) b n);have l:=bL (bW k.o a dF);obtain⟨I,R,rfl,-,-,-⟩:=iO b;have D:=ja zH a;have j:=bO d a (bP d);have t:w.heap.size+1<=w2.heap.size:=by have:=a.size;omega
  clear b a d k;go_wp2_with fail;refine (Mg _ _ (by simp;omega)).mono ?_;rintro e w3 ⟨vc,rfl,b,d⟩;have a:(s.extract (6+nE s*2+nR s*3) s.size).size / 5=nC s:=by simp;omega
  rw[a,Ld s _ _ _ o_ o_]at d;clear a;have k:=bL (dH (base':=w.heap.size+1) d t);have q:=bL (bW l.o b dF);have r:=bL (bW z.o b dF);obtain⟨G,O,rfl,-,-,-⟩:=iO d;have F:=ja D b;have a:=bO j b (bP j);have u:=bQ 0 a rfl;have x:=bQ 1 a rfl;have y:=bQ 2 a rfl;have S:=bM a 0;have T:=bM a 1;have U:=bM a 2;clear d b j a l z;go_wp2;refine br_ (v:=.tuple #[.agg #[.slice H (nE s) Q,.slice I (nR s) R,.slice G (nC s) O],.bool true]) (by simp[results,results60,go_sem,u,x,y]) rfl (.inl ⟨A.o.2 p.o,_,_,_,rfl,?_,?_,?_,?_⟩)
  .exact ((F.setCell dF _).setCell dF _).setCell dF _
  .exact dH (ob_ (ob_ (ob_ q.o (ls_ _) _) (ls_ _) _) (ls_ _) _) (Nat.le_succ _)
  .have e:(eG s).rules=dJ s (6+nE s*2) (nR s):=by unfold eG;rw[Nat.mul_comm]
   rw[e];exact dH (ob_ (ob_ (ob_ r.o (ls_ _) _) (ls_ _) _) (ls_ _) _) (Nat.le_succ _)
  .have e:(eG s).code=lS s (6+nE s*2+nR s*3) (nC s):=by unfold eG;rw[Nat.mul_comm 2,Nat.mul_comm 3]
   rw[e];exact dH (ob_ (ob_ (ob_ k.o (ls_ _) _) (ls_ _) _) (ls_ _) _) (Nat.le_succ _)
 .have W:((s.size:Int) != 6+(nE s:Int)*2+(nR s:Int)*3+(nC s:Int)*5)=true:=by simp;omega
  have p:=bL f;clear f;have u:=bQ 0 c rfl;have x:=bQ 1 c rfl;have y:=bQ 2 c rfl;have S:=bM c 0;have T:=bM c 1;have U:=bM c 2;clear c;go_wp2;refine br_ (v:=.tuple #[.agg #[n_,n_,n_],.bool false]) (by simp[results,results60,go_sem,u,x,y]) rfl (.inr ⟨fun h=>p.o (A.o.1 h),rfl,?_⟩);exact ((C.setCell dF _).setCell dF _).setCell dF _
theorem acm(s:Y_)(w:W_)(a:s.size<=9223372036854775807):C_ 60 #[.string s] w (Kw s w):=by
 by_cases h:6<=s.size/\bt s 0=87/\bt s 1=82
 .exact Yr s w a h.1 h.2.1 h.2.2
 .exact TQ s w a h
def BJ(code:Int)(s:Y_)(w:W_)(e:Ending)(w':W_):Prop:=
 (Form s/\gu (eG s)/\∃b c a,e=.returned (.tuple #[.agg #[b,c,a],I_ 0])/\B_ w w'/\w'.ownsRow w.heap.size 3 1 b (nE s) (bY (eG s).ents)/\w'.ownsRow w.heap.size 48 3 c (nR s) (dP (eG s).rules)/\w'.ownsRow w.heap.size 50 4 a (nC s) (dw (eG s).code))\/
 (¬(Form s/\gu (eG s))/\e=.returned (.tuple #[.agg #[n_,n_,n_],I_ code])/\B_ w w')
theorem Hu(s:Y_)(w:W_)(R:s.size<=9223372036854775807) :
  Calls prog 36 #[.string s] w (BJ 2 s w):=by
 have G:=bL ((Br_ w.heap.size w).alloc dF (c_ #[n_,n_,n_] 42));have a:dh (w.alloc (c_ #[n_,n_,n_] 42)) w.heap.size 42 [n_,n_,n_]:=hn_ _ _;have b:(w.alloc (c_ #[n_,n_,n_] 42)).heap.size=w.heap.size+1:=i_;have J:=bL a;have I:=bL b;clear a b;go_in;go_wp2_with fail;refine (acm s _ R).mono ?_;rintro e u (⟨hF,W,X,V,rfl,c,A,B,z⟩ | ⟨hF,rfl,c⟩);all_goals
  have b:=bO J.o c (bP J.o);have zH:B_ w u:=G.o.trans (c.mono (by rw[I.o];omega))
 .rw [I.o]at A B z;have q:=bL (And.intro A (And.intro B z));obtain⟨g,k,rfl,-,-,-⟩:=iO A;obtain⟨i,l,rfl,-,-,-⟩:=iO B;obtain⟨f,j,rfl,-,-,-⟩:=iO z;have x:=bQ 0 b rfl;have n:w.heap.size<u.heap.size:=bP b;clear x A B z c;have K:=bL hF;clear hF;go_wp2_with fail;have p:=bL (cO b (c_ #[.slice g (nE s) k,.slice i (nR s) l,.slice f (nC s) j] 42));have r:Hid (dh (u.alloc (c_ #[.slice g (nE s) k,.slice i (nR s) l,.slice f (nC s) j] 42)) u.heap.size 42 [.slice g (nE s) k,.slice i (nR s) l,.slice f (nC s) j]):=hn_ _ _;have y:=bL (zH.alloc o_ (c_ #[.slice g (nE s) k,.slice i (nR s) l,.slice f (nC s) j] 42));clear b;refine (JZ _ _ _ (eG s) _ (vQ (oa_ q.o.1 _) (qR _ _ _).symm) (vU (oa_ q.o.2.1 _) (lH _ _ _).symm) (yo (oa_ q.o.2.2 _) (tq _ _ _).symm)).mono ?_;rintro e S ⟨L,rfl,d,a⟩;have t:=bO p.o a (bP p.o);have E:=bO r.o a (bP r.o);have H:B_ w S:=y.o.trans (a.mono (by simp;omega));have F:=bL (And.intro (bW (oa_ q.o.1 (c_ #[.slice g (nE s) k,.slice i (nR s) l,.slice f (nC s) j] 42)) a dF) (And.intro (bW (oa_ q.o.2.1 (c_ #[.slice g (nE s) k,.slice i (nR s) l,.slice f (nC s) j] 42)) a dF) (bW (oa_ q.o.2.2 (c_ #[.slice g (nE s) k,.slice i (nR s) l,.slice f (nC s) j] 42)) a dF)));have x:=bQ 0 t rfl;have C:=bQ 1 t rfl;have D:=bQ 2 t rfl;have N:=bM t 0;have O:=bM t 1;have Q:=bM t 2;have aW:=bQ 0 E rfl;have T:=bQ 1 E rfl;have U:=bQ 2 E rfl;clear t E p r y q a;have p:u.heap.size≠w.heap.size:=o_;cases L
  .have a:Hid (¬(Form s/\gu (eG s))):=fun h=>Bool.noConfusion (d.2 h.2);clear d;go_wp2;refine br_ (v:=.tuple #[.agg #[n_,n_,n_],I_ 2]) (by simp[results,results36,go_sem,x,C,D]) rfl (.inr ⟨a.o,rfl,?_⟩);exact ((H.setCell dF _).setCell dF _).setCell dF _
  .have a:=bL (d.1 rfl);clear d;go_wp2;refine br_ (v:=.tuple #[.agg #[.slice g (nE s) k,.slice i (nR s) l,.slice f (nC s) j],I_ 0]) (by simp[results,results36,go_sem,x,C,D]) rfl (.inl ⟨K.o,a.o,_,_,_,rfl,?_,?_,?_,?_⟩)
   .exact ((H.setCell dF _).setCell dF _).setCell dF _
   .exact dH (ob_ (ob_ (ob_ F.o.1 (ls_ _) _) (ls_ _) _) (ls_ _) _) (Nat.le_succ _)
   .exact dH (ob_ (ob_ (ob_ F.o.2.1 (ls_ _) _) (ls_ _) _) (ls_ _) _) (Nat.le_succ _)
   .exact dH (ob_ (ob_ (ob_ F.o.2.2 (ls_ _) _) (ls_ _) _) (ls_ _) _) (Nat.le_succ _)
 .have a:Hid (¬(Form s/\gu (eG s))):=fun h=>hF h.1;have n:w.heap.size<u.heap.size:=bP b;have p:u.heap.size≠w.heap.size:=o_;have x:=bQ 0 b rfl;have C:=bQ 1 b rfl;have D:=bQ 2 b rfl;have N:=bM b 0;have O:=bM b 1;have Q:=bM b 2;clear hF c b;go_wp2;refine br_ (v:=.tuple #[.agg #[n_,n_,n_],I_ 2]) (by simp[results,results36,go_sem,x,C,D,n]) rfl (.inr ⟨a.o,rfl,?_⟩);exact (((zH.setCell dF _).setCell dF _).setCell dF _).alloc (by simp;omega) _
theorem iW{w:W_}{base e size n:Nat}{v:V_}{xs:List V_}(h:w.ownsRow base e size v n xs)(m:Nat):(w.drewN m).ownsRow base e size v n xs:=h
theorem eX{W w':W_}{base e size n base' j b n':Nat}{v k:V_}{xs d:List V_}(h:W.ownsRow base e size v n xs)(q:W.ownsRow base' j b k n' d)(s:e≠j)(r:W.grownBy w' k.ownBlock):w'.ownsRow base e size v n xs:=by
 refine World.ownsRow.kept h r ?_;rcases h.2 with ⟨rfl,_⟩ | ⟨g,l,p,rfl,_,c,_⟩
 .exact .inl rfl
 .rcases q.2 with ⟨rfl,_⟩ | ⟨t,f,i,rfl,_,a,_⟩
  .right;simp[Value.ownBlock]
  .right;simp only[Value.ownBlock,ne_eq,Option.some.injEq];intro e;subst e;rw[c]at a;simp at a;exact s a.2
theorem xO{w:W_}{g t:Nat}{xs:List V_}(h:dh w g t xs)(n:Nat):dh (w.drewN n) g t xs:=h
end Go.Proofs.YtmccnmgaoppogabGreat
