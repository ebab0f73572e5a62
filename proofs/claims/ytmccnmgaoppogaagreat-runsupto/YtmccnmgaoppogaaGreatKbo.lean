import Derived.Test.YtmccnmgaoppogaaGreatKbn
namespace Go.Proofs.YtmccnmgaoppogaaGreat
open Pu
set_option linter.all false
set_option maxRecDepth 100000
set_option maxHeartbeats 8000000
open Go.RowKit
variable {base cap g i:Nat} {v:V_} {xs:List V_} {ao:Option Addr} {w w':W_}
theorem Ru.row {W W':W_} {all:List aC} {e size n:Nat} (h:Ru W all g) (ho:W.ownsRow base e size v n xs) (n1:99≠e) (n2:161≠e) (n3:101≠e) (hg:W.grownBy W' v.ownBlock):Ru W' all g:=by obtain⟨B,s0,vn,al,cl,k1,k2,k3,k4⟩:=h;exact⟨B,s0,vn,al,cl,k1,k2,⟨fK ho k3.rb n1 hg,k3.up,fC k3.own ho n2 hg⟩,fC k4 ho n3 hg⟩
section
variable {N B gw gd:Nat} {iG:List Al} {zs os:List Gz} {ts:List Tl} {n:Int} {mG mR jh jb:V_} {W W':W_}
theorem WQ.below (h:WQ N B gw gd iG zs os ts mG mR W) (hb:B_ W W'):WQ N B gw gd iG zs os ts mG mR W':=
 h.step (row:=none) (fun b e=>by cases e) ⟨hb.os,hb.tape,hb.output,hb.size,fun k hk _=>hb.block k hk⟩
theorem WI.below (h:WI N gw gd iG zs ts n mG mR jh jb W) (hb:B_ W W'):WI N gw gd iG zs ts n mG mR jh jb W':=
 ⟨(h.q.below hb).more hb.size di,bN h.d hb (bO h.d),bU h.tl hb di,bU h.tn hb di,h.yV,h.ap,h.up⟩
theorem acA {len:Nat} (h:W.ownsRow base 74 5 (.slice ao len cap) len xs):Part W ao cap 0 v/\∀g,ao=some (a_ g 0)->base<=g:=by
 rcases h.2 with ⟨h1,_⟩ | ⟨g,cap',cur,h1,h3,h4,h5,h6,h7,_⟩
 .cases h1
  exact⟨.inl ⟨rfl,rfl⟩,fun g e=>by cases e⟩
 .cases h1
  refine⟨.inr ⟨g,cur.toList,rfl,?_,by simp;omega⟩,fun g' e=>by cases e;exact h3⟩;unfold dh;simpa using h4
theorem Part.lt (h:Part W ao cap i v) (e:ao=some (a_ g 0)):g<W.heap.size:=by
 rcases h with ⟨h1,_⟩ | ⟨g',old,h1,h2,_⟩
 .rw [h1] at e;cases e
 .rw [h1] at e;cases e
  exact bO h2
theorem WI.kept {Ha FU Cv:V_} (hk:KT (WQ N B gw gd iG zs zs ts mG mR) gd ao cap cap (I_ (n+1)) (n+1) Ha FU (ts.length+1) (ts.length+1) ((ts.map fun x=>.slice x.ao x.cap x.cap)++[.slice ao cap cap]) (bY (ts.map (·.m))++[I_ (n+1)]) W)
  (hb:∀b,FU.ownBlock=some b->Cv.ownBlock=some b\/∃W,WQ N B gw gd iG zs zs ts mG mR W/\W.heap.size<=b) (hf:∀b,Cv.ownBlock=some b->Far zs b)
  (ap:∀(i j:Nat) (x y:Gz),zs[i]?=some x->zs[j]?=some y->i≠j->x.g≠y.g/\x.gs≠y.gs) (up:gd<=gw/\∀x∈zs,gd<=x.g/\gd<=x.gs) :
  WI N gw gd iG zs (ts++[⟨ao,cap,n+1⟩]) (n+1) mG mR Ha FU W:=by
 refine⟨⟨hk.q.w,hk.q.im,hk.q.sc,fun z hz=>?_,hk.q.gz,di,hk.q.pic⟩,hk.d,?_,?_,fun b e=>?_,ap,up⟩
 .rcases ma_.1 hz with h | h
  .exact⟨(hk.q.parts z h).1,fun g e=>(hk.q.parts z h).1.lt e⟩
  .simp at h;subst h;exact⟨hk.t,fun g e=>hk.t.lt e⟩
 .simpa using hk.l
 .simpa [bY] using hk.n
 .rcases hb b e with h | ⟨V,hV,hl⟩
  .exact hf b h
  .intro z hz;have k:=hV.gz z hz;obtain⟨xs,b1⟩:=k.c.fA;obtain⟨ys,b2⟩:=k.d.fA;have:=bO b1;have:=bO b2;omega
end
def oI (w w':W_):Prop:=∀ga ys,dh w ga 45 ys->dh w' ga 45 ys
theorem oI.trans {a b c:W_} (h:oI a b) (h':oI b c):oI a c:=fun _ _ k=>h' _ _ (h _ _ k)
theorem oI.alloc (w:W_) (o:Obj):oI w (w.alloc o):=fun _ _ k=>dx k o
theorem oI.below (hb:B_ w w'):oI w w':=fun _ _ k=>bN k hb (bO k)
theorem oI.grown {t:Nat} (hb:dh w g t xs) (ht:45≠t) (hg:w.grownBy w' (some g)):oI w w':=fun _ _ k=>bQ k hg (fun e=>T.iB k hb ht (oi_ e))
theorem oI.row {e size n:Nat} (h:w.ownsRow base e size v n xs) (ht:45≠e) (hg:w.grownBy w' v.ownBlock):oI w w':=fun _ _ k=>fK h k ht hg
theorem oI.cell {t:Nat} (hb:dh w g t xs) (ht:45≠t) (j:Nat) (u:V_):oI w (w.setCell (a_ g j) u):=fun _ _ k=>dB k (T.iB k hb ht) j u
structure Kept (gd:Nat) (w w':W_):Prop where
 op:oI w w'
 lo:Below gd w w'
theorem Kept.trans {gd:Nat} {a b c:W_} (h:Kept gd a b) (h':Kept gd b c):Kept gd a c:=⟨h.op.trans h'.op,h.lo.trans h'.lo⟩
theorem Kept.alloc {gd:Nat} {w:W_} (hd:gd<=w.heap.size) (o:Obj):Kept gd w (w.alloc o):=⟨.alloc w o,(Br_ _ _).alloc hd o⟩
theorem Kept.below {gd:Nat} {w w':W_} (hd:gd<=w.heap.size) (hb:B_ w w'):Kept gd w w':=⟨.below hb,hb.mono hd⟩
theorem Kept.grown {gd:Nat} {w w':W_} {g t:Nat} {xs:List V_} (hd:gd<=g) (hb:dh w g t xs) (ht:45≠t) (hg:w.grownBy w' (some g)):Kept gd w w':=
 ⟨.grown hb ht hg,(Br_ _ _).grown hg (by have:=bO hb;omega) (fun k e=>by cases e;exact hd)⟩
theorem Kept.row {gd:Nat} {w w':W_} {e size n:Nat} {v:V_} {xs:List V_} (hd:gd<=w.heap.size) (h:w.ownsRow gd e size v n xs) (ht:45≠e) (hg:w.grownBy w' v.ownBlock):Kept gd w w':=
 ⟨.row h ht hg,(Br_ _ _).grown hg hd (fun k hk=>(ol_ h k hk).1)⟩
theorem Kept.cell {gd:Nat} {w:W_} {g t:Nat} {xs:List V_} (hd:gd<=g) (hb:dh w g t xs) (ht:45≠t) (j:Nat) (u:V_):Kept gd w (w.setCell (a_ g j) u):=⟨.cell hb ht j u,(Br_ _ _).setCell hd u⟩
theorem Kept.lets {gd:Nat} (jh jb:V_) (hd:gd<=w.heap.size) (ha:∀g,ao=some (a_ g 0)->gd<=g):Cg gd ao jh jb (Kept gd w) where
 below:=fun _ _ h hb=>h.trans (.below (lt_ hd h.lo.size) hb)
 drawer:=fun _ _ _ _ h hb=>h.trans (.cell di hb (by decide) _ _)
 token:=fun _ g _ _ _ h e hb=>h.trans (.cell (ha g e) hb (by decide) _ _)
 lists:=fun _ _ _ _ h ho hg=>h.trans (.row (lt_ hd h.lo.size) ho (by decide) hg)
 numbers:=fun _ _ _ _ h ho hg=>h.trans (.row (lt_ hd h.lo.size) ho (by decide) hg)
theorem Cg.and {gd:Nat} {jh jb:V_} {Q R:W_->Prop} (h:Cg gd ao jh jb Q) (k:Cg gd ao jh jb R):Cg gd ao jh jb (fun W=>Q W/\R W) where
 below:=fun _ _ z hb=>⟨h.below _ _ z.1 hb,k.below _ _ z.2 hb⟩
 drawer:=fun _ _ _ _ z hb=>⟨h.drawer _ _ _ _ z.1 hb,k.drawer _ _ _ _ z.2 hb⟩
 token:=fun _ _ _ _ _ z e hb=>⟨h.token _ _ _ _ _ z.1 e hb,k.token _ _ _ _ _ z.2 e hb⟩
 lists:=fun _ _ _ _ z ho hg=>⟨h.lists _ _ _ _ z.1 ho hg,k.lists _ _ _ _ z.2 ho hg⟩
 numbers:=fun _ _ _ _ z ho hg=>⟨h.numbers _ _ _ _ z.1 ho hg,k.numbers _ _ _ _ z.2 ho hg⟩
def adY (N gw gd i:Nat) (iG:List Al) (zs:List Gz) (ts:List Tl) (n:Int) (mG mR:V_) (x:Gz) (w:W_) (e:Ending) (w':W_):Prop:=
 e=.returned (.bool true)/\Kept gd w w'/\∃E2 Ag D t jh jb,t.cap<=9223372036854775807/\WI N gw gd iG (zs.set i { x with E:=E2,E':=Ag,C:=D }) (ts++[t]) (n+1) mG mR jh jb w'
theorem abG (N gw gd i:Nat) (iG:List Al) (zs:List Gz) (ts:List Tl) (n:Int) (mG mR jh jb:V_) (x:Gz) (kind on a b:Int) (s:Y_) (ae ar ac:Option Addr) (ne ce nr cr nc cc:Nat) (w:W_) (h:WI N gw gd iG zs ts n mG mR jh jb w) (hx:zs[i]?=some x) (hN:N+s.size<=1099511627776) (hn:0<=n/\n<=1099511627776) (hts:ts.length<=1099511627776) :
  C_ 18 #[p_ gw,.agg #[p_ x.g,p_ x.gs],.agg #[I_ kind,I_ on,I_ a,I_ b,.string s,.slice ae ne ce,.slice ar nr cr,.slice ac nc cc]] w (adY (N+s.size) gw gd i iG zs ts n mG mR x w):=by
 have H0:=bK ((h.below (mi (c_ #[p_ x.g,p_ x.gs] 70))).below (mi (c_ #[I_ kind,I_ on,I_ a,I_ b,.string s,.slice ae ne ce,.slice ar nr cr,.slice ac nc cc] 45)));have KG:Hid (dh ((w.alloc (c_ #[p_ x.g,p_ x.gs] 70)).alloc (c_ #[I_ kind,I_ on,I_ a,I_ b,.string s,.slice ae ne ce,.slice ar nr cr,.slice ac nc cc] 45)) w.heap.size 70 [p_ x.g,p_ x.gs]):=dx (hn_ w _) _;have KO:Hid (dh ((w.alloc (c_ #[p_ x.g,p_ x.gs] 70)).alloc (c_ #[I_ kind,I_ on,I_ a,I_ b,.string s,.slice ae ne ce,.slice ar nr cr,.slice ac nc cc] 45)) (w.heap.size+1) 45 [I_ kind,I_ on,I_ a,I_ b,.string s,.slice ae ne ce,.slice ar nr cr,.slice ac nc cc]):=by have z:=hn_ (w.alloc (c_ #[p_ x.g,p_ x.gs] 70)) (c_ #[I_ kind,I_ on,I_ a,I_ b,.string s,.slice ae ne ce,.slice ar nr cr,.slice ac nc cc] 45);rw [wa_] at z;exact z
 have HX:=bK hx;have DLW:Hid (∀v:W_,v=w->gd<=v.heap.size):=fun v e=>by rw [e];exact ll_ (bO h.d)
 have OP0:Hid (Kept gd w ((w.alloc (c_ #[p_ x.g,p_ x.gs] 70)).alloc (c_ #[I_ kind,I_ on,I_ a,I_ b,.string s,.slice ae ne ce,.slice ar nr cr,.slice ac nc cc] 45))):=(Kept.alloc (ll_ (bO h.d)) _).trans (.alloc (by have:=bO h.d;simp;omega) _);clear h hx;go_enter Tryz.func18,Tryz.ntmps18
 go_upto_if 14 with (fail)
 generalize (w.alloc (c_ #[p_ x.g,p_ x.gs] 70)).alloc (c_ #[I_ kind,I_ on,I_ a,I_ b,.string s,.slice ae ne ce,.slice ar nr cr,.slice ac nc cc] 45)=W0 at *;generalize w.heap.size=ga at *
 have DL0:Hid (gd<=w.heap.size/\gd<=W0.heap.size):=⟨DLW.o w rfl,ll_ (bO H0.o.d)⟩
 have PB:Hid (∀z∈ts,∀g,z.ao=some (a_ g 0)->g<W0.heap.size):=fun z hz=>(H0.o.q.parts z hz).2
 go_cut [7,8,9,10] from 12 (fun lv mv ev fv wx=>∃D Tk E2 Ag code,ev=I_ code/\fv=I_ code/\W0.heap.size<=wx.heap.size/\wx.ownsRow W0.heap.size 74 5 lv Tk.length (eB Tk)/\wx.ownsRow W0.heap.size 74 5 mv Tk.length (eB Tk)/\WI (N+s.size) gw gd iG (zs.set i { x with E:=E2,E':=Ag,C:=D }) ts n mG mR jh jb wx/\Kept gd W0 wx)
 case first=>
  have kx:=H0.o.q.gz x (mg_ HX.o);have g0:=bP 0 KG.o rfl;have g1:=bP 1 KG.o rfl;have o4:=bP 4 KO.o rfl;by_cases hk:kind=3
  focus
   subst hk;have CF:=bK (Yn x.L x.g x.E x.C s W0 kx.c (by have:=kx.n1;omega))
  rotate_left
  focus
   have dk:(kind == 3)=false:=by simpa using hk
   have CF:=bK (Ph x.L x.g x.E x.C W0 kx.c (by have:=kx.n1;omega))
  rotate_left
  all_goals
   go_wp2_with fail
   refine CF.o.mono ?_
   clear CF;rintro e W1 ⟨D,Tk,vt,E2,code,rfl,ho,hS,hg,hz,l1,l2⟩;have S1:Hid (Ao (T.yT x.L x.g) W1 x.g E2 D):=hS;have G1:=bK hg;have O1:=bK ho;have LL:=bK (And.intro hz (And.intro l1 l2));obtain⟨us,bu⟩:=kx.c.fA;obtain⟨vs,bv⟩:=kx.d.fA
   have KD:Hid (T.Ds (T.yT x.L' x.gs) W1 x.gs x.E' x.C):=kx.d.jy ⟨fun e=>T.iB bv bu (by decide) (oi_ e),fun b' e cs t fr hcs=>by
    cases e
    unfold dh at bu;rw [bu] at hcs;cases hcs
    exact⟨by decide,by decide,by decide,fun e=>absurd e (by decide)⟩⟩ hg
   have KG1:=bK (bQ KG.o hg (fun e=>T.iB KG.o bu (by decide) (oi_ e)));have KO1:=bK (bQ KO.o hg (fun e=>T.iB KO.o bu (by decide) (oi_ e)));have NE:Hid (x.E.s.size<=N/\x.E'.s.size<=N):=⟨kx.n1,kx.n2⟩;have SM:Hid (x.C.err=0->x.E=x.E'):=kx.same;have OP1:Hid (Kept gd W0 W1):=.grown (H0.o.up.2 x (mg_ HX.o)).1 bu (by decide) hg;have BV:=bK (bQ bv hg (fun e=>T.iB bv bu (by decide) (oi_ e)));obtain⟨q1,q2,q3,f',-,-,-,gd',hr'⟩:=kx.d;have GR:=bK (And.intro gd' hr');clear hS hg ho hz l1 l2 bu bv gd' hr' kx g0 g1 o4;have g1:=bP 1 KG1.o rfl;have o4:=bP 4 KO1.o rfl
  focus have DF:=bK (abE x.L' x.gs x.E' x.C s W1 KD.o (by have:=NE.o.2;omega))
  rotate_left
  focus have DF:=bK (UE x.L' x.gs x.E' x.C W1 KD.o (by have:=NE.o.2;omega))
  rotate_left
  all_goals
   go_wp2_with fail
   refine DF.o.mono ?_
   clear DF;rintro e W2 ⟨D',Tk',vo,F2,BH,rfl,ho',hS',hg',hz',m1,m2⟩;obtain⟨eD,eT,eC,eE⟩:=Ut GR.o.1 GR.o.2 SM.o LL.o.2.1 LL.o.2.2 m1 m2;subst eD eT eC
  focus have FIN:=bK (H0.o.agI HX.o (N':=N+s.size) G1.o S1.o hg' hS' eE (by omega) (by have:=LL.o.1;rw [mh] at this;have:=NE.o.1;omega) (by rw [mh] at hz';have:=NE.o.2;omega))
  rotate_left
  focus have FIN:=bK (H0.o.agI HX.o (N':=N+s.size) G1.o S1.o hg' hS' eE (by omega) (by have:=LL.o.1;rw [mh] at this;have:=NE.o.1;have z:fe.size=0:=rfl;omega) (by rw [mh] at hz';have:=NE.o.2;have z:fe.size=0:=rfl;omega))
  all_goals
   have O2:Hid (W2.ownsRow W0.heap.size 74 5 vt Tk'.length (eB Tk')):=dM O1.o BV.o (by decide) hg';have O3:Hid (W2.ownsRow W0.heap.size 74 5 vo Tk'.length (eB Tk')):=dH ho' G1.o.size;have OP2:Hid (Kept gd W0 W2):=OP1.o.trans (.grown (H0.o.up.2 x (mg_ HX.o)).2 BV.o (by decide) hg');have SZ:Hid (W0.heap.size<=W2.heap.size):=lt_ G1.o.size hg'.size;clear ho' hS' hg' hz' m1 m2 eE;go_wp2
   go_meet
   case rel=>exact⟨D',Tk',E2,F2,BH,rfl,rfl,SZ.o,O2.o,O3.o,FIN.o,OP2.o⟩
 case rest=>
  obtain⟨D,Tk,E2,Ag,code,rfl,rfl,hsz,hl,hm,hW,hop⟩:=hcut;obtain⟨ao,cap,rfl,hc1,hc2⟩:=T.oo hl;have SA:=bK (NP _ _ Tk wc _ _ hl hm);have HL:=bK hl;have HW:=bK hW;have OPC:=bK hop;have HZ:=bK hsz;clear hl hm hW hsz hop H0 KG KO
  go_wp2_with fail
  refine SA.o.mono ?_
  clear SA;rintro e w3 ⟨rfl,hb3⟩;have H3:=bK (HW.o.below hb3);have P3:=bK (acA (v:=I_ (n+1)) (bU HL.o hb3 di));have Q3:Hid (WQ (N+s.size) W0.heap.size gw gd iG (zs.set i { x with E:=E2,E':=Ag,C:=D }) (zs.set i { x with E:=E2,E':=Ag,C:=D }) ts mG mR w3):=⟨H3.o.q.w,H3.o.q.im,H3.o.q.sc,fun z hz=>⟨(H3.o.q.parts z hz).1,PB.o z hz⟩,H3.o.q.gz,lt_ HZ.o hb3.size,H3.o.q.pic⟩;have OP3:Hid (Kept gd w w3):=(OP0.o.trans OPC.o).trans (.below (ll_ (bO HW.o.d)) hb3);have DL:Hid (gd<=w.heap.size/\gd<=W0.heap.size):=DL0.o;have KP:=bK (Ep (fun W=>WQ (N+s.size) W0.heap.size gw gd iG (zs.set i { x with E:=E2,E':=Ag,C:=D }) (zs.set i { x with E:=E2,E':=Ag,C:=D }) ts mG mR W/\Kept gd w W) gd ao Tk.length cap n jh jb ts.length ts.length (ts.map fun x=>.slice x.ao x.cap x.cap) (bY (ts.map (·.m))) w3 ((WQ.lets P3.o.2 H3.o.yV).and (Kept.lets jh jb DL.o.1 (fun g e=>lt_ DL.o.2 (P3.o.2 g e)))) hn hc2 ⟨hts,hts⟩ ⟨⟨Q3.o,OP3.o⟩,H3.o.d,P3.o.1,H3.o.tl,H3.o.tn⟩);have c2:=bP 2 H3.o.q.w rfl;clear hb3 P3 Q3
  go_wp2_with fail
  refine KP.o.mono ?_
  clear KP c2;rintro e w4 ⟨rfl,Ha,FU,hk,hbl⟩;have WF:=bK (WI.kept ⟨hk.q.1,hk.d,hk.t,hk.l,hk.n⟩ (fun b hb=>(hbl b hb).imp id (fun ⟨V,hV,hl⟩=>⟨V,hV.1,hl⟩)) H3.o.yV H3.o.ap H3.o.up);have OP4:=bK hk.q.2;clear hk hbl
  go_wp2_with fail
  refine (zI code _).mono ?_
  rintro e w5 ⟨rfl,rfl⟩;go_wp2;go_ret;exact⟨rfl,OP4.o,E2,Ag,D,⟨ao,cap,n+1⟩,Ha,FU,hc2,WF.o⟩
theorem Tryz.infg70 : (Tryz.prog.info? 70).map (fun i=>(i.zero,i.size,i.bytes))=some (some (.agg #[.pointer none,.pointer none]),2,16):=by kernel_rfl
theorem UU (zs:List Gz) (x:Gz):xW (zs++[x])=xW zs++[p_ x.g,p_ x.gs]:=by simp [xW]
section
variable {N gw gd:Nat} {iG:List Al} {zs:List Gz} {ts:List Tl} {n:Int} {mG mR jh jb:V_} {W W':W_}
theorem WI.agJ (h:WI N gw gd iG zs ts n mG mR jh jb W) {x:Gz} {v2:V_} (hx:GOK N W x) (hup:gd<=x.g/\gd<=x.gs) (hg:W.grownBy W' mR.ownBlock) (ho:W'.ownsRow gd 70 2 v2 (zs.length+1) (xW zs++[p_ x.g,p_ x.gs]))
  (hf:∀b,jb.ownBlock=some b->¬(x.L<=b/\b<x.g)/\¬(x.L'<=b/\b<x.gs)) (hn:∀y∈zs,y.g≠x.g/\y.gs≠x.gs) :
  WI N gw gd iG (zs++[x]) ts n mG v2 jh jb (W'.setCell (a_ gw 1) v2):=by
 have w1:=fK h.q.sc h.q.w (by decide) hg;have hs:=gs_ W' gw 1 v2
 have kp:∀(y:Gz),GOK N W y->GOK N (W'.setCell (a_ gw 1) v2) y:=by
  intro y k;obtain⟨xs,b1⟩:=k.c.fA;obtain⟨ys,b2⟩:=k.d.fA
  have sf:∀(L g:Nat) (t:TypeId) (us:List V_),dh W g t us->t≠70->Safe W L g mR.ownBlock:=by
   intro L g t us hb ht;refine⟨fun e=>?_,fun b e cs t' fr hc=>?_⟩
   .rcases h.q.sc.2 with ⟨e1,_⟩ | ⟨g',cap,cur,e1,_,h4,_⟩
    .rw [e1] at e;cases e
    .rw [e1] at e;cases e
     unfold dh at hb;rw [hb] at h4;cases h4;exact ht rfl
   .rcases h.q.sc.2 with ⟨e1,_⟩ | ⟨g',cap,cur,e1,_,h4,_⟩
    .rw [e1] at e;cases e
    .rw [e1] at e;cases e
     rw [h4] at hc;cases hc;exact⟨by decide,by decide,by decide,fun e=>absurd e (by decide)⟩
  have sf2:∀(L g:Nat) (t:TypeId) (us:List V_),dh W' g t us->t≠37->Safe W' L g (some gw):=by intro L g t us hb ht;refine⟨fun e=>T.iB hb w1 ht (oi_ e),fun b e cs t' fr hc=>?_⟩;cases e;unfold dh at w1;rw [w1] at hc;cases hc;exact⟨by decide,by decide,by decide,fun e=>absurd e (by decide)⟩
  have c1:=k.c.jy (sf _ _ _ _ b1 (by decide)) hg;have d1:=k.d.jy (sf _ _ _ _ b2 (by decide)) hg;obtain⟨xs',b1'⟩:=c1.fA;obtain⟨ys',b2'⟩:=d1.fA;exact⟨c1.jy (sf2 _ _ _ _ b1' (by decide)) hs,d1.jy (sf2 _ _ _ _ b2' (by decide)) hs,k.same,k.n1,k.n2⟩
 have d1:=fK h.q.sc h.d (by decide) hg;have sz:(W'.setCell (a_ gw 1) v2).heap.size=W'.heap.size:=by simp [World.setCell]
 refine⟨⟨cO w1 1 v2,dM (fC h.q.im h.q.sc (by decide) hg) w1 (by decide) hs,?_,fun z hz=>⟨?_,fun g e=>?_⟩,fun z hz=>?_,di,fun z hz=>⟨(h.q.pic z hz).s,((h.q.pic z hz).r.row h.q.sc (by decide) (by decide) (by decide) hg).on w1 (by decide) (by decide) (by decide) hs,(h.q.pic z hz).m⟩⟩,dB d1 (T.iB d1 w1 (by decide)) _ _,dM (fC h.tl h.q.sc (by decide) hg) w1 (by decide) hs,dM (fC h.tn h.q.sc (by decide) hg) w1 (by decide) hs,fun b hb z hz=>?_,?_,h.up.1,fun z hz=>?_⟩
 .rw [UU,la_,List.length_singleton];exact dM ho w1 (by decide) hs
 .refine (h.q.parts z hz).1.jy (fun g xs _ hb=>?_);have b1:=fK h.q.sc hb (by decide) hg;exact dB b1 (T.iB b1 w1 (by decide)) _ _
 .have:=(h.q.parts z hz).2 g e;have:=hg.size;rw [sz];omega
 .rcases ma_.1 hz with hz | hz
  .exact kp z (h.q.gz z hz)
  .simp at hz;subst hz;exact kp z hx
 .rcases ma_.1 hz with hz | hz
  .exact h.yV b hb z hz
  .simp at hz;subst hz;exact hf b hb
 .intro i j u v hu hv hij;rw [List.getElem?_append] at hu hv;split at hu <;> split at hv
  .exact h.ap i j u v hu hv hij
  .have e:v=x:=by
    rw [List.getElem?_singleton] at hv;split at hv
    .cases hv;rfl
    .cases hv
   subst e;exact hn u (mg_ hu)
  .have e:u=x:=by
    rw [List.getElem?_singleton] at hu;split at hu
    .cases hu;rfl
    .cases hu
   subst e;have:=hn v (mg_ hv);exact⟨fun e=>this.1 e.symm,fun e=>this.2 e.symm⟩
  .rw [List.getElem?_singleton] at hu hv;split at hu
   .split at hv
    .omega
    .cases hv
   .cases hu
 .rcases ma_.1 hz with hz | hz
  .exact h.up.2 z hz
  .simp at hz;subst hz;exact hup
end
namespace Pu
end Pu
namespace Pu
theorem CZ (xs ys:List Int) {n:Nat} (h:n<xs.length):(xs++ys).getD n 0=xs.getD n 0:=by simp only [gd_];rw [al_ h]
theorem zw (xs ys:List Int) (a n:Nat) (ha:xs.length=a):(xs++ys).getD (a+n) 0=ys.getD n 0:=by subst ha;simp only [gd_];rw [ar_ (by omega),Nat.add_sub_cancel_left]
theorem zu {α:Type} (f:α->List Int) (c:Nat) (hf:∀x,(f x).length=c) (d:α):∀(l:List α) (i j:Nat),i<l.length->j<c->(l.flatMap f).getD (c*i+j) 0=(f (l.getD i d)).getD j 0
 | x::r,0,j,_,hj=>by rw [List.flatMap_cons,Nat.mul_zero,Nat.zero_add,CZ _ _ (by rw [hf];exact hj)];rfl
 | x::r,i+1,j,hi,hj=>by have ih:=zu f c hf d r i j (by simpa using hi) hj;rw [List.flatMap_cons,show c*(i+1)+j=c+(c*i+j) by rw [Nat.mul_succ];omega,zw _ _ _ _ (hf x),ih];rfl
theorem Em (p:oC):vN p=(((Ei p++eb p.code.length)++p.ents.flatMap eb)++p.rules.flatMap zU)++p.code.flatMap Mt:=by unfold vN bD bC bq;simp only [List.take_length]
theorem Jq (p:oC):(vN p).length=6+2*p.ents.length+3*p.rules.length+5*p.code.length:=FY p _ di
theorem Y0 (p:oC):(vN p).getD 0 0=87/\(vN p).getD 1 0=82/\(vN p).getD 2 0=p.ents.length/\(vN p).getD 3 0=p.rules.length/\(vN p).getD 4 0=(p.code.length:Int) % 256/\(vN p).getD 5 0=(p.code.length:Int) / 256:=by rw [Em];simp only [Ei,eb,List.cons_append,List.nil_append];exact⟨rfl,rfl,rfl,rfl,rfl,rfl⟩
theorem aeE (p:oC):((Ei p++eb p.code.length)++p.ents.flatMap eb).length=6+2*p.ents.length:=by rw [la_,uB eb 2 (fun _=>rfl)];rfl
theorem aeF (p:oC):(((Ei p++eb p.code.length)++p.ents.flatMap eb)++p.rules.flatMap zU).length=6+2*p.ents.length+3*p.rules.length:=by rw [la_,aeE,uB zU 3 (fun _=>rfl)]
theorem SI (p:oC) (hi:i<p.ents.length) (j:Nat) (hj:j<2):(vN p).getD (6+2*i+j) 0=(eb (aU p.ents i)).getD j 0:=by rw [Em,CZ _ _ (by rw [aeF];omega),CZ _ _ (by rw [aeE];omega),Nat.add_assoc,zw _ _ 6 _ rfl,zu eb 2 (fun _=>rfl) 0 _ _ _ hi hj];rfl
theorem Eo (p:oC) (hi:i<p.rules.length) (j:Nat) (hj:j<3):(vN p).getD (6+2*p.ents.length+3*i+j) 0=(zU (rg p.rules i)).getD j 0:=by rw [Em,CZ _ _ (by rw [aeF];omega),Nat.add_assoc,zw _ _ (6+2*p.ents.length) _ (aeE p),zu zU 3 (fun _=>rfl) aY _ _ _ hi hj];rfl
theorem zA (p:oC) (hi:i<p.code.length) (j:Nat) (hj:j<5):(vN p).getD (6+2*p.ents.length+3*p.rules.length+5*i+j) 0=(Mt (aO p.code i)).getD j 0:=by rw [Em,Nat.add_assoc,zw _ _ (6+2*p.ents.length+3*p.rules.length) _ (aeF p),zu Mt 5 (fun _=>rfl) aS _ _ _ hi hj];rfl
def Bytes (xs:List Int):Prop:=∀x,x∈xs->0<=x/\x<=255
theorem qN {xs ys:List Int} (h:Bytes xs) (k:Bytes ys):Bytes (xs++ys):=fun x hx=>by
 rcases ma_.1 hx with h' | h'
 .exact h x h'
 .exact k x h'
theorem yA {α:Type} {f:α->List Int} {l:List α} (h:∀x,x∈l->Bytes (f x)):Bytes (l.flatMap f):=fun x hx=>by obtain⟨y,hy,hxy⟩:=List.mem_flatMap.1 hx;exact h y hy x hxy
theorem Jy {α:Type} {l:List α} (d:α) {x:α} (hx:x∈l):∃i,i<l.length/\l.getD i d=x:=by obtain⟨i,hi,e⟩:=List.getElem_of_mem hx;exact⟨i,hi,by rw [gd_,gg_ hi];exact e⟩
theorem Vb {p:oC} (h:iy p):Bytes (vN p):=by
 have hn:=h.2.2.1.1;have hm:=h.1.1;have hk:=h.2.1.1;rw [Em];refine qN (qN (qN (qN ?_ ?_) ?_) ?_) ?_
 .intro x hx;simp only [Ei,mm_,List.not_mem_nil,or_false] at hx;rcases hx with rfl | rfl | rfl | rfl <;> omega
 focus intro x hx
 rotate_left
 focus
  refine yA fun y hy x hx=>?_
  obtain⟨i,hi,rfl⟩:=Jy 0 hy;have:=Bf h hi;unfold aU at this
 rotate_left
 .refine yA fun y hy x hx=>?_
  obtain⟨i,hi,rfl⟩:=Jy aY hy;have:=yM h hi;unfold rg at this;simp only [zU,mm_,List.not_mem_nil,or_false] at hx;rcases hx with rfl | rfl | rfl <;> omega
 .refine yA fun y hy x hx=>?_
  obtain⟨i,hi,rfl⟩:=Jy aS hy;have:=Bg h hi;unfold aO at this;simp only [Mt,mm_,List.not_mem_nil,or_false] at hx;rcases hx with rfl | rfl | rfl | rfl | rfl <;> omega
 all_goals
  simp only [eb,mm_,List.not_mem_nil,or_false] at hx;rcases hx with rfl | rfl <;> omega
end Pu
theorem aeb {xs:List Int} (h:Pu.Bytes xs) (n:Nat):bt (strOfNums xs) n=xs.getD n 0:=by
 unfold bt;rw [strOfNums_data];simp only [gd_,gm_]
 cases e:xs[n]? with
 | none=>simp
 | some x=>have hx:=h x (mg_ e);simp;omega
theorem En {p:oC} (h:iy p):Form (strOfNums (vN p))/\eX (strOfNums (vN p))=p:=by
 have hb:=aeb (Vb h);have hn:=h.2.2.1.1;obtain⟨h0,h1,h2,h3,h4,h5⟩:=Y0 p;have e2:nE (strOfNums (vN p))=p.ents.length:=by unfold nE;rw [hb,h2];omega
 have e3:nR (strOfNums (vN p))=p.rules.length:=by unfold nR;rw [hb,h3];omega
 have e4:nC (strOfNums (vN p))=p.code.length:=by unfold nC pr;rw [hb,hb,h4,h5];omega
 have hs:(strOfNums (vN p)).size=6+2*p.ents.length+3*p.rules.length+5*p.code.length:=by rw [strOfNums_size,Jq]
 refine⟨⟨by omega,by rw [hb,h0],by rw [hb,h1],by rw [e2,e3,e4,hs]⟩,?_⟩;unfold eX;rw [e2,e3,e4]
 have a1:jX (strOfNums (vN p)) 6 p.ents.length=p.ents:=by
  apply List.ext_getElem
  .simp [jX]
  .intro i hi hi';simp only [jX,List.getElem_map,List.getElem_range];unfold pr;rw [hb,hb];have aW:=SI p hi' 0 (by omega);have q1:=SI p hi' 1 (by omega);rw [Nat.add_zero] at aW;have g:Pu.aU p.ents i=p.ents[i]:=by simp [Pu.aU,gd_,hi']
   rw [g] at aW q1;rw [aW,q1];simp only [Pu.eb,List.getD_cons_zero,List.getD_cons_succ];omega
 have a2:dE (strOfNums (vN p)) (6+2*p.ents.length) p.rules.length=p.rules:=by
  apply List.ext_getElem
  .simp [dE]
  .intro i hi hi';simp only [dE,List.getElem_map,List.getElem_range];rw [hb,hb,hb];have aW:=Eo p hi' 0 (by omega);have q1:=Eo p hi' 1 (by omega);have q2:=Eo p hi' 2 (by omega);rw [Nat.add_zero] at aW;have g:Pu.rg p.rules i=p.rules[i]:=by simp [Pu.rg,gd_,hi']
   rw [g] at aW q1 q2;rw [aW,q1,q2];rfl
 have a3:kM (strOfNums (vN p)) (6+2*p.ents.length+3*p.rules.length) p.code.length=p.code:=by
  apply List.ext_getElem
  .simp [kM]
  .intro i hi hi';simp only [kM,List.getElem_map,List.getElem_range];unfold pr;rw [hb,hb,hb,hb,hb];have aW:=zA p hi' 0 (by omega);have q1:=zA p hi' 1 (by omega);have q2:=zA p hi' 2 (by omega);have q3:=zA p hi' 3 (by omega);have q4:=zA p hi' 4 (by omega);rw [Nat.add_zero] at aW;have g:Pu.aO p.code i=p.code[i]:=by simp [Pu.aO,gd_,hi']
   rw [g] at aW q1 q2 q3 q4;rw [aW,q1,q2,q3,Nat.add_assoc _ 3 1,q4];generalize p.code[i]=x;obtain⟨o,a,b,t⟩:=x;simp only [Mt,List.getD_cons_zero,List.getD_cons_succ,dY.mk.injEq,true_and];omega
 rw [a1,a2,a3]
def adX (N gw gd:Nat) (iG:List Al) (zs:List Gz) (ts:List Tl) (n:Int) (mG mR jh jb:V_) (most depth:Int) (w:W_) (e:Ending) (w':W_):Prop:=
 e=.returned (.bool true)/\Kept gd w w'/\((¬((1<=most/\most<=64)/\(0<=depth/\depth<=8))/\WI N gw gd iG zs ts n mG mR jh jb w')\/(((1<=most/\most<=64)/\(0<=depth/\depth<=8))/\∃x v2,WI N gw gd iG (zs++[x]) ts n mG v2 jh jb w'))
theorem O4 (N gw gd:Nat) (iG:List Al) (zs:List Gz) (ts:List Tl) (n:Int) (mG mR jh jb:V_) (pc:Al) (most depth:Int) (w:W_) (h:WI N gw gd iG zs ts n mG mR jh jb w) (hpc:pc∈iG) (rm:Gh most) (rd:Gh depth) (hz:zs.length<=1099511627776) :
  C_ 16 #[p_ gw,.agg #[.string pc.s,p_ pc.g],I_ most,I_ depth] w (adX N gw gd iG zs ts n mG mR jh jb most depth w):=by
 obtain⟨aU,hig,hg0,hg1,hg2⟩:=ip_ Tryz.infg70;have pk:=h.q.pic pc hpc;have rp:iy (lS pc.all):=by obtain⟨B,s0,vn,al,cl,k1,k2,k3,k4⟩:=pk.r;exact uS k1 pk.m
 have fm:=En rp;rw [<-pk.s] at fm
 have hs:pc.s.size<=9223372036854775807:=by
  rw [pk.s];have h1:=Jq (lS pc.all);have h2:(strOfNums (vN (lS pc.all))).size=(vN (lS pc.all)).length:=by simp [strOfNums,ByteArray.size]
  have h3:=rp.2.2.1.1.2;have h4:=rp.1.1.2;have h5:=rp.2.1.1.2;omega
 have FR:Hid (Form pc.s/\iy (eX pc.s)):=⟨fm.1,by rw [fm.2];exact rp⟩
 have aI:Hid (eX pc.s=lS pc.all):=fm.2;have M42:=bK pk.m;have SR:Hid (∀V,WI N gw gd iG zs ts n mG mR jh jb V->C_ 35 #[p_ pc.g,I_ most,I_ depth] V (Hf pc.all most depth V)):=fun V hV=>FE pc.g pc.all most depth V (hV.q.pic pc hpc).r M42.o rm rd
 clear pk rp fm;have H0:=bK (h.below (mi (c_ #[.string pc.s,p_ pc.g] 57)));have KI:Hid (dh (w.alloc (c_ #[.string pc.s,p_ pc.g] 57)) w.heap.size 57 [.string pc.s,p_ pc.g]):=hn_ w _;have OP0:Hid (Kept gd w (w.alloc (c_ #[.string pc.s,p_ pc.g] 57))):=.alloc (ll_ (bO h.d)) _;clear h;go_enter Tryz.func16,Tryz.ntmps16
 go_wp2_with fail
 generalize w.alloc (c_ #[.string pc.s,p_ pc.g] 57)=W0 at *;generalize w.heap.size=ga at *;refine (FH pc.s most depth W0 hs rm rd).mono ?_
 rintro e W1 (⟨U5,g,rfl,hge,hB1,hS⟩ | ⟨hF,rfl,hB1⟩ | ⟨hF,hM,rfl,hB1⟩)
 rotate_left
 .exact absurd FR.o hF
 rotate_left
 all_goals
  have H1:=bK (H0.o.below hB1);have OP1:=bK (OP0.o.trans (.below (ll_ (bO H0.o.d)) hB1));have KI1:=bK (bN KI.o hB1 (bO KI.o));have aS:=bP 0 KI1.o rfl;have i1:=bP 1 KI1.o rfl
 focus
  have OK:=bK U5;have S1:=bK hS;have Z1:Hid (W0.heap.size<=g/\W0.heap.size<=W1.heap.size):=⟨hge,hB1.size⟩;clear hB1 hS hge KI
  go_wp2_with fail
  refine (SR.o W1 H1.o).mono ?_
  clear aS i1;rintro e W2 (⟨aen,gs,rfl,hgs,hB2,hD⟩ | ⟨hM,rfl,hB2⟩)
  rotate_left
  .exact absurd U5.2 hM
  rw [<-aI.o] at hD
 rotate_left
 focus
  have NO:Hid (¬((1<=most/\most<=64)/\(0<=depth/\depth<=8))):=hM;clear hB1 H0 KI
  go_wp2_with fail
  refine (SR.o W1 H1.o).mono ?_
  clear aS i1;rintro e W2 (⟨aen,gs,rfl,hgs,hB2,hD⟩ | ⟨hM',rfl,hB2⟩)
  .exact absurd aen hM
 rotate_left
 all_goals
  have H2:=bK (H1.o.below hB2);have OP2:=bK (OP1.o.trans (.below (ll_ (bO H1.o.d)) hB2))
 .have GX:Hid (GOK N W2 ⟨g,gs,W0.heap.size,W1.heap.size,xV (eX pc.s) most depth,xV (eX pc.s) most depth,rD (eX pc.s)⟩):=⟨S1.o.below hB2,hD,fun _=>rfl,zl_ _,zl_ _⟩
  have FX:Hid (∀b,jb.ownBlock=some b->¬(W0.heap.size<=b/\b<g)/\¬(W1.heap.size<=b/\b<gs)):=fun b hb=>by have:=(ol_ H0.o.tn b hb).2;have:=Z1.o;omega
  have dl2:gd<W2.heap.size:=bO H2.o.d;have UP:Hid (gd<=g/\gd<=gs):=by have:=bO H0.o.d;have:=Z1.o;exact⟨by omega,by omega⟩
  have NX:Hid (∀y∈zs,y.g≠g/\y.gs≠gs):=fun y hy=>by have k:=H0.o.q.gz y hy;obtain⟨xs,b1⟩:=k.c.fA;obtain⟨ys,b2⟩:=k.d.fA;have:=bO b1;have:=bO b2;have:=Z1.o;omega
  have wl:=bO H2.o.q.w;have ne1:gw≠W2.heap.size:=by omega
  have yZ:W2.heap.size≠gw:=by omega
  have c1:=bP 1 H2.o.q.w rfl;clear hB2 hD U5 aen hgs S1 H1 KI1 H0
  go_wp2_with fail
  refine (zI 0 _).mono ?_
  rintro e w5 ⟨rfl,rfl⟩
  go_wp2_with (at_builtin;refine wo_ _ rfl (.tmp 57) (.tmp 61) 35 rfl gd 70 aU (.agg #[.pointer none,.pointer none]) 2 16 Tryz.underlying35 hig hg0 hg1 hg2 rfl (by decide) mR zs.length (xW zs) rfl (oa_ H2.o.q.sc _) (a_ w5.heap.size 0) 1 1 [p_ g,p_ gs] rfl rfl (jw rfl) (by intro u hu;simp at hu;rcases hu with rfl | rfl <;> rfl) (by unfold maxLen;omega) (by omega) (by simp;omega) ?_;intro v2 wa dw bS _;obtain⟨aq,cq,rfl,h5,h6⟩:=T.oo dw;have H3:=(H2.o.below (mi (c_ #[p_ g,p_ gs] 70)));have b1:=fK H3.q.sc H3.q.w (by decide) bS;have c1':=bM (j:=1) b1 rfl;have z1:=bL b1 1)
  go_ret;have GX3:GOK N _ ⟨g,gs,W0.heap.size,W1.heap.size,xV (eX pc.s) most depth,xV (eX pc.s) most depth,rD (eX pc.s)⟩:=⟨GX.o.c.below (mi (c_ #[p_ g,p_ gs] 70)),GX.o.d.below (mi _),fun _=>rfl,zl_ _,zl_ _⟩;exact⟨rfl,((OP2.o.trans (.alloc (ll_ (bO H2.o.d)) _)).trans (.row (ll_ (bO H3.d)) H3.q.sc (by decide) bS)).trans (.cell H3.up.1 b1 (by decide) _ _),.inr ⟨OK.o.2,_,_,H3.agJ GX3 UP.o bS dw FX.o NX.o⟩⟩
 .clear hB2 H1 KI1
  go_wp2_with fail
  refine (zI 3 _).mono ?_
  rintro e w5 ⟨rfl,rfl⟩;go_wp2;go_ret;exact⟨rfl,OP2.o,.inl ⟨NO.o,H2.o⟩⟩
end Go.Proofs.YtmccnmgaoppogaaGreat
