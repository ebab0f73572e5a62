import Derived.Test.YtmccnmgaoppogabGreatuY2
import Derived.Deep.RegionHeldLaw
namespace Go.Proofs.YtmccnmgaoppogabGreat
open Pu
set_option linter.all false
open Go.Proofs.Tryz Tryz
set_option maxRecDepth 100000
set_option maxHeartbeats 8000000
open Go.RowKit
variable {W W' w:W_} {base g g0 n:Nat} {xs:List V_}
theorem GZ{a b c d:V_}{A:Act}{Q:Ending->W_->Prop}(j:A.tmps.getD 2 undef=p_ g)(e:A.defers=[])(h:dh W g 232 [a,b,c,d])(i:Q (.returned (.agg #[a,b,c,d])) W) :
  bodyPost prog f117 Q .ret A W:=by
 refine br_ (v:=.agg #[a,b,c,d]) ?_ e i;rw[ry results117,j];exact run_loadVar_row W g 232 232 #[a,b,c,d] (0,0) _ h underlying232 rfl Dy
structure UG(w:W_)(g0 go:Nat)(m:Int × Int)(W:W_):Prop where
 be:B_ w W
 res:dh W g0 232 (Ue false 0 0 0)
 o:dh W go 232 (Ue false 0 m.1 m.2)
theorem UG.below{go:Nat}{m:Int × Int}(h:UG w g0 go m W)(a:B_ W W'):UG w g0 go m W':=⟨ja h.be a,bO h.res a (bP h.res),bO h.o a (bP h.o)⟩
theorem Ox(h:B_ w W):w.grownBy W (some g):=⟨h.os,h.tape,h.output,h.size,fun k a _=>h.block k a⟩
abbrev bk(W:W_)(g0:Nat)(a b c d:V_):W_:=(((W.setCell (a_ g0 0) a).setCell (a_ g0 1) b).setCell (a_ g0 2) c).setCell (a_ g0 3) d
theorem back(f:B_ w W)(h:dh W g0 232 (Ue false 0 0 0))(e:w.heap.size<=g0)(a b c d:V_):B_ w (bk W g0 a b c d)/\dh (bk W g0 a b c d) g0 232 [a,b,c,d]:=
 ⟨(((f.setCell e _).setCell e _).setCell e _).setCell e _,cK (cK (cK (cK h 0 a) 1 b) 2 c) 3 d⟩
theorem UG.mark{go:Nat}{m:Int × Int}(h:UG w g0 go m W)(a:w.heap.size<=go)(ne:g0≠go)(r n:Int):UG w g0 go (r,n) ((W.setCell (a_ go 2) (I_ r)).setCell (a_ go 3) (I_ n)):=
 ⟨(h.be.setCell a _).setCell a _,bU (bU h.res ne _ _) ne _ _,cK (cK h.o 2 (I_ r)) 3 (I_ n)⟩
theorem aeI{a:List aC}{mode:Int}{K:List aA}(j:xH a mode K){s:Y_}{p:Nat}{r:Int}(f:pJ a mode (Pu.wd s p n) r):Pu.mk K s p (n+1)=if 0<=r/\0<n then (r,(n:Int)) else Pu.mk K s p n:=by
 rw[Vw];by_cases b:0<n
 .have e:Pu.RK K (Pu.wd s p n)=r:=(j.first (acW s p n) (fun h=>by have:=ahI s p n;rw[h]at this;simp at this;omega)).zJ f;rw[e];have d:r≠-1↔0<=r:=by
   rcases f with ⟨h,_⟩ | ⟨i,x,h,_⟩
   .omega
   .omega
  by_cases c:0<=r
  .rw [if_pos ⟨b,d.2 c⟩,if_pos ⟨c,b⟩]
  .rw [if_neg (fun h=>c (d.1 h.2)),if_neg (fun h=>c h.1)]
 .rw [if_neg (fun h=>b h.1),if_neg (fun h=>b h.2)]
section
variable {gr gs:Nat} {E:bI} {gT:Nat} {rest:List V_} {C D D' F:bJ} {iJ iD:V_} {w V:W_} {K:List aA} {n p:Nat} {er:Int}
theorem aaq(h:Pu.AtS E C K n F)(m:RM V gr gs E (ZR gT) rest C iJ iD):RM V gr gs E (ZR gT) rest F iJ iD:=by obtain⟨s,i,c,rfl⟩:=h;exact m.Pg rfl
theorem KJ(h:Pu.AtS E C K n F)(a:C.pos.toNat=p):F.rule=(Pu.mk K E.s p (n+1)).1/\F.marked=(Pu.mk K E.s p (n+1)).2/\F.err=C.err/\F.pos=C.pos:=by obtain⟨s,i,c,rfl⟩:=h;rw[<-a];exact⟨rfl,rfl,rfl,rfl⟩
theorem G7(h:qJ E C D)(f:qJ E D D')(k:Pu.AtS E C K n D')(j:Pu.look E D'=.stop F er)(c:Pu.AtS E C K n F)(i:C.err=0)(m:RM w gr gs E (ZR gT) rest C iJ iD)(a:B_ w V)(b:C.pos.toNat=p):qo gr gs E (ZR gT) rest C iJ iD w (.returned (.agg #[.bool false,I_ er,I_ (Pu.mk K E.s p (n+1)).1,I_ (Pu.mk K E.s p (n+1)).2])) V:=by have d:=KJ k b;have e:=KJ c b;exact⟨D',h.trans f,d.2.2.1.trans i,d.2.2.2,Ox a,.inr ⟨F,er,by rw[e.1,e.2.1],j,aaq c (m.below a)⟩⟩
theorem acn(e:qJ E C D)(d:qJ E D D')(c:Pu.AtS E C K n D')(h:Pu.look E D'=.wait)(f:C.err=0)(m:RM w gr gs E (ZR gT) rest C iJ iD)(b:B_ w V)(i:C.pos.toNat=p):qo gr gs E (ZR gT) rest C iJ iD w (.returned (.agg #[.bool true,I_ 0,I_ (Pu.mk K E.s p (n+1)).1,I_ (Pu.mk K E.s p (n+1)).2])) V:=by have a:=KJ c i;exact⟨D',e.trans d,a.2.2.1.trans f,a.2.2.2,Ox b,.inl ⟨by rw[a.1,a.2.1],h,aaq c (m.below b)⟩⟩
end
theorem P7(f:Nat->Int)(gr gs:Nat)(E:bI)(gT:Nat)(rest:List V_)(C:bJ)(iJ iD:V_)(w:W_)(gd:Pu.Good E f)(h:wY E f C)(he:C.err=0)(I:C.pos<E.s.size)(hs:E.s.size<=1099511627776)(m:RM w gr gs E (ZR gT) rest C iJ iD)
  (a:C.ins=Pu.aU E.p.ents C.mode.toNat/\C.c=0/\C.looked=0/\C.rule=0/\C.marked=0) :
  Calls prog 117 #[p_ gr] w (qo gr gs E (ZR gT) rest C iJ iD w):=by
 obtain⟨q,S,y,U⟩:=m.l.rul;have l:=h.mode;obtain⟨mm,r⟩:=Int.eq_ofNat_of_zero_le l.1;have Y:(nH q).ents.length=Pu.aV q:=by have:=(yN U).ents;rw[yZ]at this;exact this
 have J:mm<Pu.aV q:=by rw[S,Y]at l;omega
 obtain⟨K,e0,T,H,u⟩:=Rx U J;have hF:Ah E C:=⟨he,⟨h.pos,I⟩,a.2.2.1,a.2.2.2.1,a.2.2.2.2⟩;obtain⟨st,G,t⟩:=aan hF (e:=e0) (by rw[S];exact u) (by rw[a.1,S,r];exact H);have k:=gd.most;obtain⟨p,b⟩:=Int.eq_ofNat_of_zero_le h.pos;have R:C.pos.toNat=p:=by rw[b];rfl
 have b1:B_ w ((w.alloc (c_ #[.bool false,I_ 0,I_ 0,I_ 0] 232)).alloc (c_ #[.bool false,I_ 0,I_ 0,I_ 0] 232)):=(kM _).alloc i_ _;have Z:Hid (UG w w.heap.size (w.heap.size+1) (Pu.mk K E.s p 0) ((w.alloc (c_ #[.bool false,I_ 0,I_ 0,I_ 0] 232)).alloc (c_ #[.bool false,I_ 0,I_ 0,I_ 0] 232))):=by have s:=hn_ w (c_ #[.bool false,I_ 0,I_ 0,I_ 0] 232);have i:=hn_ (w.alloc (c_ #[.bool false,I_ 0,I_ 0,I_ 0] 232)) (c_ #[.bool false,I_ 0,I_ 0,I_ 0] 232);rw[wa_]at i;exact⟨b1,cO s _,i⟩
 have v:Hid (∀V,B_ w V->V.cell? (a_ gr 0)=some (p_ gs)/\V.cell? (a_ gs 3)=some (p_ gT)/\V.cell? (a_ gr 4)=some (I_ C.mode)/\V.cell? (a_ gs 6)=some (.string E.s)/\V.cell? (a_ gr 1)=some (I_ p)):=fun V i=>by have s:=m.below i;refine⟨bN (j:=0) s.fB rfl,bN (j:=3) s.scn rfl,bN (j:=4) s.fB rfl,bN (j:=6) s.scn rfl,?_⟩;rw[<-b];exact bN (j:=1) s.fB rfl
 have RU:=bL y;have MM:=bL m;have HF:=bL hF;have HK:=bL T.kok;have HS:=bL G;have HT:Hid (xH q C.mode K):=by rw[r];exact T
 have X:Hid (∃D,qJ E C D/\Pu.AtK E C K st 0 D):=⟨C,.refl _,t⟩;have s:=bL R;have N:=bL b;have HE:=bL he;have m64:E.most<=64:=k.2;have m1:1<=E.most:=k.1;have ps:p<E.s.size:=o_;have sz:E.s.size<=1099511627776:=hs;have NXT:Hid (∀(n:Nat) (V:W_),n<=64->B_ w V->C_ 138 #[p_ gs,I_ p,I_ n] V (rV (I_ (nx E p n)) V)):=fun n V A i=>PD gs E _ rest p n V (m.below i).scn o_ o_ hs;have O:w.heap.size<=w.heap.size+1:=Nat.le_succ _;have A:w.heap.size≠w.heap.size+1:=o_;clear y m hF T G t k h he I hs a S U Y J H u l R b b1 r gd;go_in;go_wp2_with fail;generalize (w.alloc (c_ #[.bool false,I_ 0,I_ 0,I_ 0] 232)).alloc (c_ #[.bool false,I_ 0,I_ 0,I_ 0] 232)=W1 at *;generalize w.heap.size+1=go at *;go_loopg [4,5,6,7] 66 (fun gk b _ _ _ u=>∃n:Nat,n<=64/\gk=66-n/\b=I_ n/\p+n<=E.s.size/\(n:Int)<=E.most/\UG w w.heap.size go (Pu.mk K E.s p n) u/\∃D,qJ E C D/\Pu.AtK E C K st n D);exact⟨0,o_,rfl,rfl,o_,o_,Z.o,X.o⟩;clear Z X;obtain⟨n,n64,rfl,rfl,pn,nm,k,D,r,l⟩:=hrel;have S:=bL k;have x:=bL r;have L:=bL l;have bd:B_ w wr.drew:=k.be.drew;have T:=v.o wr.drew bd;have H:=yL ((p:Int)+n);have G:((p:Int)+n).toNat=p+n:=o_;have wn:=kZ n;have p0:=jJ p;have U:(p:Int)<=p+(n:Int):=o_;have X:(p:Int)+n<=(E.s.size:Int):=o_;have J:=bL (Wl (E.s.extract p (p+n)) q gT C.mode wr.drew (RU.o.below bd) (by rw[ByteArray.size_extract];omega));have b:=bL (afk pn);clear k r l;go_wp2_with fail;go_region_held3 (fun k=>k.cell? (a_ gr 0)=some (p_ gs)/\k.cell? (a_ gs 3)=some (p_ gT)/\k.cell? (a_ gr 4)=some (I_ C.mode)/\k.cell? (a_ gs 6)=some (.string E.s)/\k.cell? (a_ gr 1)=some (I_ p)) (first | assumption | exact v.o _ (ja bd i)) (first | (go_at_call 137;refine J.o.mono ?_;rintro e k ⟨r,on,rfl,i,u,y⟩));have l:Hid (UG w w.heap.size go (Pu.mk K E.s p n) k):=(S.o.below (Below.drew (Br_ wr.heap.size wr))).below i;have R:Hid (pJ q C.mode (Pu.wd E.s p n) r):=by show pJ _ _ _ _;rw[<-b.o];exact u
 have Q:Hid (on=true↔Pu.OnK K (Pu.wd E.s C.pos.toNat n)):=by show _↔_;rw[s.o,HT.o.onw (acW _ _ _),<-b.o];exact y
 have t:=bL (aeI HT.o R.o);clear i u y T J b bd S U X H G R;generalize k=W2 at *;go_upto_region 5 with (fail);go_cut [48] from 8 to 77 (fun b u=>b=.bool (decide (0<=r/\0<n))/\u=W2)
 case first=>
  by_cases S:0<=r
  .have y:decide ((0:Int)<=r)=true:=dt_ S;by_cases u:0<n;have G:=oL (0:Int) (n:Int);have b:Hid (decide (0<=r/\0<n)=true):=dt_ ⟨S,u⟩;rotate_left;focus
    have G:=nI (0:Int) (n:Int);have b:Hid (decide (0<=r/\0<n)=false):=dn_ (fun h=>u h.2)
   all_goals
    have u:=bL u;clear S;go_wp2_with fail;go_meet;case rel=>exact⟨by rw[b.o],rfl⟩
  .have y:decide ((0:Int)<=r)=false:=dn_ S;have b:Hid (decide (0<=r/\0<n)=false):=dn_ (fun h=>S h.1);clear S;go_wp2_with fail;go_meet;case rel=>exact⟨by rw[b.o],rfl⟩
 case rest=>
 obtain⟨rfl,rfl⟩:=hcut;go_upto_if 48 with (fail);go_cut [] from 8 to 77 (fun u=>UG w w.heap.size go (Pu.mk K E.s p (n+1)) u)
 case first=>
  by_cases c:0<=r/\0<n
  .have R:Hid (UG w w.heap.size go (Pu.mk K E.s p (n+1)) ((wc.setCell (a_ go 2) (I_ r)).setCell (a_ go 3) (I_ n))):=by have:=l.o.mark O A r (n:Int);show UG _ _ _ _ _;rw[t.o,if_pos c];exact this
   have G:=bQ 2 l.o.o rfl;have H:=bQ 3 l.o.o rfl;have u:=bM l.o.o 2;have y:=bM l.o.o 3;have b:decide (0<=r/\0<n)=true:=dt_ c;rw[b];clear t c l b;generalize Pu.mk K E.s p n=Ez at *;go_wp2_with fail;go_meet;case rel=>exact R.o
  .have R:Hid (UG w w.heap.size go (Pu.mk K E.s p (n+1)) wc):=by have:=l.o;show UG _ _ _ _ _;rw[t.o,if_neg c];exact this
   have b:decide (0<=r/\0<n)=false:=dn_ c;rw[b];clear t c l b;go_wp2_with fail;go_meet;case rel=>exact R.o
 case rest=>
  clear l t;have d:=bL hcut;have CW:=v.o wc hcut.be;obtain⟨b,_,_,_,y⟩:=CW;clear hcut;have z0:=bQ 0 d.o.res rfl;have z1:=bQ 1 d.o.res rfl;have z2:=bQ 2 d.o.res rfl;have z3:=bQ 3 d.o.res rfl;have X:=bM d.o.res 0;have Y:=bM d.o.res 1;have Z:=bM d.o.res 2;have fz3:=bM d.o.res 3;have y0:=bQ 0 d.o.o rfl;have y1:=bQ 1 d.o.o rfl;have y2:=bQ 2 d.o.o rfl;have y3:=bQ 3 d.o.o rfl;have T:=bM d.o.o 0;have U:=bM d.o.o 1;have ngn':go≠w.heap.size:=Ne.symm A;cases on with
  | false=>
   obtain⟨D',F,G,H,t,J⟩:=aap HF.o HK.o L.o (fun l=>by have:=Q.o.2 l;cases this);have l:Hid (∀V,B_ w V->qo gr gs E (ZR gT) rest C iJ iD w (.returned (.agg #[.bool false,I_ 0,I_ (Pu.mk K E.s p (n+1)).1,I_ (Pu.mk K E.s p (n+1)).2])) V):=fun V i=>G7 x.o G H t J HE.o MM.o i s.o;have u:=bL (back d.o.be d.o.res dF (.bool false) (I_ 0) (I_ (Pu.mk K E.s p (n+1)).1) (I_ (Pu.mk K E.s p (n+1)).2));clear G H t J d Q L x;generalize Pu.mk K E.s p (n+1)=mk1 at *;go_wp2;exact GZ rfl rfl u.o.2 (l.o _ u.o.1)
  | true=>
   have R:Hid (Pu.OnK K (Pu.wd E.s C.pos.toNat n)):=Q.o.1 rfl;have t:B_ w wc.drew:=d.o.be.drew;have S2:=v.o wc.drew t;have NC:=bL (NXT.o n wc.drew n64 t);clear b y;go_wp2_with fail;go_region_held3 (fun k=>k.cell? (a_ gr 0)=some (p_ gs)/\k.cell? (a_ gs 3)=some (p_ gT)/\k.cell? (a_ gr 4)=some (I_ C.mode)/\k.cell? (a_ gs 6)=some (.string E.s)/\k.cell? (a_ gr 1)=some (I_ p)) (first | assumption) (first | (go_at_call 138;refine NC.o.mono ?_;rintro e k ⟨rfl,rfl⟩));have b:=bL (d.o.below (Below.drew (Br_ wc.heap.size wc)));obtain⟨D',F,G,H,J,la,lb⟩:=aao HF.o HK.o L.o R.o;clear z0 z1 z2 z3 X Y Z fz3 y0 y1 y2 y3 T U d S2 NC t;generalize wc.drew=W4 at *;have z0:=bQ 0 b.o.res rfl;have z1:=bQ 1 b.o.res rfl;have z2:=bQ 2 b.o.res rfl;have z3:=bQ 3 b.o.res rfl;have X:=bM b.o.res 0;have Y:=bM b.o.res 1;have Z:=bM b.o.res 2;have fz3:=bM b.o.res 3;have y0:=bQ 0 b.o.o rfl;have y1:=bQ 1 b.o.o rfl;have y2:=bQ 2 b.o.o rfl;have y3:=bQ 3 b.o.o rfl;have T:=bM b.o.o 0;have U:=bM b.o.o 1;by_cases a1:p+n<E.s.size
   .by_cases t:(n:Int)=E.most
    .have y:nx E (p:Int) (n:Int)=3:=by unfold nx;rw[if_pos o_,if_pos t]
     have l:Hid (∀V,B_ w V->qo gr gs E (ZR gT) rest C iJ iD w (.returned (.agg #[.bool false,I_ 5,I_ (Pu.mk K E.s p (n+1)).1,I_ (Pu.mk K E.s p (n+1)).2])) V):=fun V i=>G7 x.o G H (lb (by rw[N.o];omega) o_) J HE.o MM.o i s.o;have u:=bL (back (b.o.be.setCell O (I_ 5)) (bU b.o.res A 1 (I_ 5)) dF (.bool false) (I_ 5) (I_ (Pu.mk K E.s p (n+1)).1) (I_ (Pu.mk K E.s p (n+1)).2));rw[y];clear G H J la lb b Q L x y t;generalize Pu.mk K E.s p (n+1)=mk1 at *;go_wp2;exact GZ rfl rfl u.o.2 (l.o _ u.o.1)
    .have y:nx E (p:Int) (n:Int)=0:=by unfold nx;rw[if_pos o_,if_neg t]
     obtain⟨D2,g1,g2⟩:=aiY HF.o HK.o HS.o L.o R.o (by rw[N.o];omega) o_;have NX:Hid (∃D,qJ E C D/\Pu.AtK E C K st (n+1) D):=⟨D2,x.o.trans g1,g2⟩;rw[y];clear G H J la lb Q L x y g1 g2;go_wp2;go_roundg (66-(n+1));exact⟨n+1,o_,rfl,by go_num,o_,o_,b.o,NX.o⟩;omega
   .have t:=la (by rw[N.o];omega);cases hE:E.ended with
    | true=>?_
    | false=>?_
    have y:nx E (p:Int) (n:Int)=2:=by unfold nx;rw[if_neg o_,hE];rfl
    rw[hE,if_pos rfl]at t;have l:Hid (∀V,B_ w V->qo gr gs E (ZR gT) rest C iJ iD w (.returned (.agg #[.bool false,I_ 0,I_ (Pu.mk K E.s p (n+1)).1,I_ (Pu.mk K E.s p (n+1)).2])) V):=fun V i=>G7 x.o G H t J HE.o MM.o i s.o;have u:=bL (back b.o.be b.o.res dF (.bool false) (I_ 0) (I_ (Pu.mk K E.s p (n+1)).1) (I_ (Pu.mk K E.s p (n+1)).2));rotate_left;focus
     have y:nx E (p:Int) (n:Int)=1:=by unfold nx;rw[if_neg o_,hE];rfl
     rw[hE,if_neg d_]at t;have l:Hid (∀V,B_ w V->qo gr gs E (ZR gT) rest C iJ iD w (.returned (.agg #[.bool true,I_ 0,I_ (Pu.mk K E.s p (n+1)).1,I_ (Pu.mk K E.s p (n+1)).2])) V):=fun V i=>acn x.o G H t HE.o MM.o i s.o;have u:=bL (back (b.o.be.setCell O (.bool true)) (bU b.o.res A 0 (.bool true)) dF (.bool true) (I_ 0) (I_ (Pu.mk K E.s p (n+1)).1) (I_ (Pu.mk K E.s p (n+1)).2))
    all_goals
     rw[y];clear G H J la lb t b Q L x y hE;generalize Pu.mk K E.s p (n+1)=mk1 at *;go_wp2;exact GZ rfl rfl u.o.2 (l.o _ u.o.1)
theorem Uf(f:Nat->Int)(gr gs:Nat)(E:bI)(z:oU)(rest:List V_)(C:bJ)(iJ iD:V_)(w:W_)(c:Pu.Good E f)(h:wY E f C)(d:C.err=0)(b:C.pos<E.s.size)(e:E.s.size<=1099511627776)(m:RM w gr gs E z rest C iJ iD)
  (a:C.ins=Pu.aU E.p.ents C.mode.toNat/\C.c=0/\C.looked=0/\C.rule=0/\C.marked=0) :
  C_ (cond z.b 117 118) #[p_ gr] w (qo gr gs E z rest C iJ iD w):=by
 rcases m.l with ⟨j,k,i,rfl,_⟩ | ⟨g,rfl,_⟩
 .exact Qa f gr gs E j k i rest C iJ iD w c h d b e m a
 .exact P7 f gr gs E g rest C iJ iD w c h d b e m a
theorem YV:(prog.info? 48).map (·.size)=some 3:=k_
theorem Qe{a b c:V_}{A:Act}{Q:Ending->W_->Prop}(i:A.tmps.getD 4 undef=p_ g)(d:A.defers=[])(h:dh W g 48 [a,b,c])(e:Q (.returned (.agg #[a,b,c])) W) :
  bodyPost prog f139 Q .ret A W:=by
 refine br_ (v:=.agg #[a,b,c]) ?_ d e;rw[ry results139,i];exact run_loadVar_row W g 48 48 #[a,b,c] (0,0) _ h underlying48 rfl YV
def J8(r:mg):Array V_:=#[I_ r.emit,I_ r.act,I_ r.mode]
theorem LX.anY{p:lZ}{z:oU}{v:V_}(h:LX W p z)(b:W.ownsRow base 67 5 v n xs)(a:W.grownBy W' v.ownBlock):LX W' p z:=by
 rcases h with ⟨u,y,t,e,c⟩ | ⟨g,e,d,c,⟨B,s,x,i,j,l,q,f,r⟩,k⟩
 .exact .inl ⟨u,y,t,e,eX c.e b d_ a,eX c.r b d_ a,eX c.c b d_ a⟩
 .exact .inr ⟨g,e,d,c,⟨B,s,x,i,j,l,q,⟨fq b f.rb d_ a,f.up,eX f.own b d_ a⟩,eX r b d_ a⟩,k⟩
theorem Yt(gr gs a b:Nat)(E:bI)(j i:V_)(rest:List V_)(C:bJ)(iJ iD:V_)(k:Nat)(w:W_)(m:RM w gr gs E (ZI j (s_ a E.p.rules.length b) i) rest C iJ iD)(d:k<E.p.rules.length) :
  Calls prog 139 #[p_ gr,I_ k] w (Al (.agg (J8 (Pu.rg E.p.rules k))) w):=by
 have q:=GM m.l.rT.r d;have aW:=q.1;have A:=q.2.1;have G:=q.2.2;have v:=bQ 0 m.fB rfl;have I:=bQ 3 m.scn rfl;have H:=bQ 1 m.scn rfl;have x:=bP m.fB;have y:=bP m.scn;have lv:=(iN m.l.rT.r).2;have f:w.heap.size≠gr:=o_;have J:w.heap.size≠gs:=o_;have t:w.heap.size≠a:=o_;have l:gr≠w.heap.size:=o_;have s:gs≠w.heap.size:=o_;have u:a≠w.heap.size:=o_;have e:(k:Int)<E.p.rules.length:=o_;generalize c:Pu.rg E.p.rules k=r at *;unfold J8;clear q m c;go_in;go_wp2_with fail;exact Qe rfl rfl (hn_ w _) ⟨rfl,(Br_ w.heap.size w).alloc dF _⟩
theorem Yu(gr gs:Nat)(E:bI)(gT:Nat)(rest:List V_)(C:bJ)(iJ iD:V_)(k:Nat)(w:W_)(m:RM w gr gs E (ZR gT) rest C iJ iD)(q:k<E.p.rules.length) :
  Calls prog 139 #[p_ gr,I_ k] w (Al (.agg (J8 (Pu.rg E.p.rules k))) w):=by
 obtain⟨a,s,⟨B,s0,vn,T,X,l,v,c,b⟩,L⟩:=m.l.rul;have d:(nH a).rules.length=a.length:=(Ha l).2;have u:(fQ a).ls.length=a.length:=uq a;have r:k<a.length:=by rw[s,d]at q;exact q
 obtain⟨x,t⟩:=rG a k r;have i:=(Am a l.Ao.1).get k x t;obtain⟨e,Y,A,_,_⟩:=dL b (by rw[u];omega);cases A;have aW:w.cell? (a_ e (k*5+1))=some (I_ x.emit):=bV b (qx i (j:=1) o_);have q1:w.cell? (a_ e (k*5+1+1))=some (I_ x.act):=bV b (qx i (j:=2) o_);have q2:w.cell? (a_ e (k*5+1+2))=some (I_ x.md):=bV b (qx i (j:=3) o_);have y:=bQ 2 c.rb rfl;rw[u]at y;have f:Pu.rg E.p.rules k=⟨x.emit,x.act,x.md⟩:=by rw[s];exact ae4 a t
 rw[f];have U:=bQ 0 m.fB rfl;have s3:=bQ 3 m.scn rfl;have Z:=bP m.fB;have ls:=bP m.scn;have lv:=(iN b).2;have lt:=bP c.rb;have I:w.heap.size≠gr:=o_;have uC:w.heap.size≠gs:=o_;have Q:w.heap.size≠e:=o_;have J:w.heap.size≠gT:=o_;have N:gr≠w.heap.size:=o_;have O:gs≠w.heap.size:=o_;have R:e≠w.heap.size:=o_;have S:gT≠w.heap.size:=o_;have H:(k:Int)<a.length:=o_;have G:=jJ k;unfold J8;clear m f i t c b l L s q d;go_in;go_wp2_with fail;exact Qe rfl rfl (hn_ w _) ⟨rfl,(Br_ w.heap.size w).alloc dF _⟩
theorem P9(gr gs:Nat)(E:bI)(z:oU)(rest:List V_)(C:bJ)(iJ iD:V_)(k:Nat)(w:W_)(d:gu E.p)(m:RM w gr gs E z rest C iJ iD)(a:k<E.p.rules.length) :
  C_ 139 #[p_ gr,I_ k] w (Al (.agg (J8 (Pu.rg E.p.rules k))) w):=by
 rcases m.l with ⟨j,l,i,rfl,e⟩ | ⟨g,rfl,_⟩
 .obtain⟨-,⟨c,b,rfl,f,h⟩,-⟩:=e.Qs d;exact Yt gr gs c b E j i rest C iJ iD k w m a
 .exact Yu gr gs E g rest C iJ iD k w m a
theorem GJ{e size:Nat}{v:V_}{row:Option Nat}(h:W.ownsRow base e size v n xs)(l:W.grownBy W' row)(c:∀g,v.ownBlock=some g->some g≠row):W'.ownsRow base e size v n xs:=by
 rcases h with ⟨d,⟨rfl,i⟩ | ⟨g,a,b,rfl,j,f,k⟩⟩
 .exact⟨d,.inl ⟨rfl,i⟩⟩
 .have q:g<W.heap.size:=(Array.getElem?_eq_some_iff.1 f).1;exact⟨d,.inr ⟨g,a,b,rfl,j,by rw[l.block g q (c g rfl)];exact f,k⟩⟩
theorem LX.anX{p:lZ}{z:oU}{v:V_}(h:LX W p z)(c:W.ownsRow base 3 1 v n xs)(a:W.grownBy W' v.ownBlock)(f:∀g,z.e.ownBlock=some g->some g≠v.ownBlock):LX W' p z:=by
 rcases h with ⟨x,A,u,e,b⟩ | ⟨g,e,d,b,⟨B,t,y,j,k,q,r,i,s⟩,l⟩
 .subst e;exact .inl ⟨x,A,u,rfl,GJ b.e a f,eX b.r c d_ a,eX b.c c d_ a⟩
 .exact .inr ⟨g,e,d,b,⟨B,t,y,j,k,q,r,⟨fq c i.rb d_ a,i.up,eX i.own c d_ a⟩,eX s c d_ a⟩,l⟩
theorem sW{B:Nat}{w0:W_}(h:Below B w0 W)(b:B<=g)(j:Nat)(u:V_):Below B w0 (W.setCell (a_ g j) u):=
 ⟨h.os,h.tape,h.output,by have:=h.size;simpa [World.setCell]using this,fun k a=>by rw[Below.heap_setCell _ _ _ _ (by show k≠g;omega)];exact h.block k a⟩
theorem xM{B:Nat}{w0:W_}{row:Option Nat}(h:Below B w0 W)(d:B<=W.heap.size)(a:W.grownBy W' row)(c:∀g,row=some g->B<=g):Below B w0 W':=
 ⟨a.1.trans h.os,a.2.trans h.tape,a.3.trans h.output,lt_ h.size a.size,fun k b=>by
  rw[a.block k o_ (fun e=>by have:=c k e.symm;omega)];exact h.block k b⟩
structure TR(B:Nat)(w0:W_)(gr gs:Nat)(E:bI)(z:oU)(rest:List V_)(C:bJ)(iJ iD:V_)(W:W_):Prop where
 m:RM W gr gs E z rest C iJ iD
 st:W.ownsRow B 3 1 iJ C.jy.toNat (bY (C.lN.take C.jy.toNat))
 aZ:W.ownsRow B 67 5 iD C.dU.length (fw C.dU)
 lo:∀g,z.e.ownBlock=some g->g<B
 be:Below B w0 W
 hB:B<=gr
section
variable {B:Nat} {w0:W_} {gr gs:Nat} {E:bI} {z:oU} {rest:List V_} {C D:bJ} {iJ iD:V_} {W W':W_}
theorem TR.sz(h:TR B w0 gr gs E z rest C iJ iD W):B<=W.heap.size:=by have:=bP h.m.fB;have:=h.hB;omega
theorem TR.below(h:TR B w0 gr gs E z rest C iJ iD W)(a:B_ W W'):TR B w0 gr gs E z rest C iJ iD W':=
 ⟨h.m.below a,bW h.st a dF,bW h.aZ a dF,h.lo,by
  have s:=h.sz;exact⟨a.os.trans h.be.os,a.tape.trans h.be.tape,a.output.trans h.be.output,lt_ h.be.size a.size,fun k b=>by rw[a.block k o_];exact h.be.block k b⟩,h.hB⟩
theorem TR.alloc(h:TR B w0 gr gs E z rest C iJ iD W)(o:Obj):TR B w0 gr gs E z rest C iJ iD (W.alloc o):=h.below (kM o)
theorem TR.drewN(h:TR B w0 gr gs E z rest C iJ iD W)(n:Nat):TR B w0 gr gs E z rest C iJ iD (W.drewN n):=h.below (bd_ (Br_ _ _) n)
theorem TR.drew(h:TR B w0 gr gs E z rest C iJ iD W):TR B w0 gr gs E z rest C iJ iD W.drew:=h.below (Br_ _ _).drew
theorem TR.set(h:TR B w0 gr gs E z rest C iJ iD W)(j:Nat)(u:V_)(e:(jO gs z C iJ iD).set j u=jO gs z D iJ iD)(b:D.jy=C.jy)(c:D.lN=C.lN)(d:D.dU=C.dU):TR B w0 gr gs E z rest D iJ iD (W.setCell (a_ gr j) u):=by
 have a:=gs_ W gr j u;refine⟨h.m.set j u e,?_,?_,h.lo,sW h.be h.hB j u,h.hB⟩
 .rw [b,c];exact dO h.st h.m.fB d_ a
 .rw [d];exact dO h.aZ h.m.fB d_ a
theorem TR.Pg(h:TR B w0 gr gs E z rest C iJ iD W)(d:jO gs z C iJ iD=jO gs z D iJ iD)(a:D.jy=C.jy)(b:D.lN=C.lN)(c:D.dU=C.dU):TR B w0 gr gs E z rest D iJ iD W:=
 ⟨h.m.Pg d,by rw[a,b];exact h.st,by rw[c];exact h.aZ,h.lo,h.be,h.hB⟩
theorem TR.o(h:TR B w0 gr gs E z rest C iJ iD W){go t:Nat}{ys:List V_}(a:dh W go t ys)(b:t≠3/\t≠142)(d:t≠48/\t≠181)(e:t≠50/\t≠144)(k:t≠67)(f:gr≠go)(i:gs≠go)(l:B<=go)(j:Nat)(u:V_):TR B w0 gr gs E z rest C iJ iD (W.setCell (a_ go j) u):=by have c:=gs_ W go j u;exact⟨h.m.o a b d e f i j u,dO h.st a b.1 c,dO h.aZ a k c,h.lo,sW h.be l j u,h.hB⟩
theorem TR.token(h:TR B w0 gr gs E z rest C iJ iD W){b:V_}{t:bK}(a:W.grownBy W' iD.ownBlock)(f:W'.ownsRow B 67 5 b (C.dU.length+1) (fw C.dU++[I_ t.rule,I_ t.pos,I_ t.len,I_ t.line,I_ t.iU])) :
  TR B w0 gr gs E z rest { C with dU:=C.dU++[t] } iJ b (W'.setCell (a_ gr 7) b):=by
 have c:=fq h.aZ h.m.fB d_ a;have i:RM W' gr gs E z rest C iJ iD:=⟨c,fq h.aZ h.m.scn d_ a,h.m.l.anY h.aZ a⟩;have d:=gs_ W' gr 7 b;have st:=eX h.st h.aZ d_ a;refine⟨i.set 7 b rfl,dO st c d_ d,?_,h.lo,sW (xM h.be h.sz a (fun g e=>(ol_ h.aZ g e).1)) h.hB _ _,h.hB⟩;show World.ownsRow _ _ _ _ _ (C.dU++[t]).length (fw (C.dU++[t]));rw[uX,la_,List.length_singleton];exact dO f c d_ d
theorem TR.push(h:TR B w0 gr gs E z rest C iJ iD W){b:V_}{l:List Int}{d:Int}(a:W.grownBy W' iJ.ownBlock)(s:d=C.jy+1)(i:0<=C.jy)(j:W'.ownsRow B 3 1 b (C.jy.toNat+1) (bY (l.take (C.jy.toNat+1)))) :
  TR B w0 gr gs E z rest { C with lN:=l,jy:=d } b iD (W'.setCell (a_ gr 5) b):=by
 have c:=fq h.st h.m.fB d_ a;have k:RM W' gr gs E z rest C iJ iD:=⟨c,fq h.st h.m.scn d_ a,h.m.l.anX h.st a (fun g e f=>by have q:=h.lo g e;have r:=(ol_ h.st g f.symm).1;omega)⟩;have f:=gs_ W' gr 5 b;have aZ:=eX h.aZ h.st d_ a;have e:d.toNat=C.jy.toNat+1:=o_;refine⟨k.set 5 b rfl,?_,dO aZ c d_ f,h.lo,sW (xM h.be h.sz a (fun g e=>(ol_ h.st g e).1)) h.hB _ _,h.hB⟩;show World.ownsRow _ _ _ _ _ d.toNat (bY (l.take d.toNat));rw[e];exact dO j c d_ f
theorem TR.pop{a:Nat}(h:TR B w0 gr gs E z rest C (s_ g n a) iD W)(s:C.jy.toNat=n)(t:0<n)(y:n<=C.lN.length){d:Int}(r:d.toNat=n-1) :
  TR B w0 gr gs E z rest { C with jy:=d } (s_ g (n-1) a) iD (W.setCell (a_ gr 5) (s_ g (n-1) a)):=by
 have i:=gs_ W gr 5 (s_ g (n-1) a);refine⟨h.m.set 5 _ rfl,?_,dO h.aZ h.m.fB d_ i,h.lo,sW h.be h.hB _ _,h.hB⟩;show World.ownsRow _ _ _ _ _ d.toNat (bY (C.lN.take d.toNat));refine dO ?_ h.m.fB d_ i;have st:=h.st;rw[s]at st;rw[r];rcases st with ⟨v,⟨e,f⟩ | ⟨u,c,b,e,f,j,x,k,l,q⟩⟩
 .omega
 .cases e;refine⟨by simp[bY];omega,.inr ⟨g,a,b,rfl,f,j,o_,k,l,?_⟩⟩;have:=congrArg (List.take (n-1)) q;rw[List.take_take]at this;simp only[Nat.mul_one]at this |-;rw[(o_:min (n-1) n=n-1)]at this;rw[this];simp only[bY,<-List.map_take,List.take_take];rw[(o_:min (n-1) n=n-1)]
end
end Go.Proofs.YtmccnmgaoppogabGreat
