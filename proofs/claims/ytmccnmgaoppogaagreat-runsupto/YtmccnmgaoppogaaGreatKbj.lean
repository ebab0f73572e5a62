import Derived.Test.YtmccnmgaoppogaaGreatJC
import Derived.Deep.RegionHeldLaw
import Derived.Deep.Cut
namespace Go.Proofs.YtmccnmgaoppogaaGreat
open Pu
set_option linter.all false
set_option maxRecDepth 100000
set_option maxHeartbeats 8000000
variable {ls:List aC} {mode:Int} {K:List aA} {W W' w:W_} {base g g0 n:Nat} {xs:List V_}
namespace Pu
section
variable {E:bH} {C:bI} {K:List aA} {st:List Nat}
end
theorem wE.kok (h:wE ls mode K):KOK K:=
 ⟨fun k hk=>⟨(h.ok.2 k hk).2.1,(h.ok.2 k hk).2.2⟩,h.zero,fun h2=>⟨h.none h2,h.rule0⟩⟩
theorem wE.first (h:wE ls mode K) {w:List Nat} (hw:Bq w) (hne:w≠[]):oH ls mode w (RK K w):=by
 unfold RK;split
 .rename_i hl
  exact .inl ⟨rfl,fun i x hi hm=>h.lost hl w hw hne i x hi hm⟩
 .rename_i hl
  exact h.rule w hw (by omega) hne
theorem wE.onw (h:wE ls mode K) {w:List Nat} (hw:Bq w):OnK K w↔OnW ls mode w:=by
 unfold OnK;by_cases hl:K.length<=1
 .constructor
  .intro h';exact absurd hl h'.1
  .rintro ⟨v,hne,hv,i,x,h1,h2,h3⟩;exact absurd h3 (h.lost hl (w++v) (hw.append hv) (by simp [hne]) i x h1 h2)
 .rw [<-h.on w hw (by omega)];exact⟨fun h'=>h'.2,fun h'=>⟨hl,h'⟩⟩
end Pu
namespace Pu
section
variable {ps:List aJ} {bg:List Nat} {k:Nat} {ss:List aN}
end
section
variable {ls:List aC} {q:List aD × List aJ} {mode:Int}
end
end Pu
namespace Pu
theorem acK (all:List aC) {f:Nat} {x:aC} (h:all[f]?=some x):rg (lS all).rules f=⟨x.emit,x.act,x.md⟩:=by obtain⟨pt,h1,_⟩:=qh all h;show (jD (cB all).1).getD f aY=_;unfold jD;rw [gd_,gm_,h1];rfl
theorem Pj {all:List aC} (wT:∀j,j<aV all->(fZ all j).length<=42) {m:Nat} (hm:m<aV all):∃(K:List aA) (e:Nat),wE all (m:Int) K/\aU (lS all).ents m=(e:Int)/\OP (lS all).code e K:=by
 have hk:(oh all)[m]?=some (jI (cB all).1 (fZ all m)):=by unfold oh;rw [gm_,List.getElem?_range hm];rfl
 obtain⟨e,h1,_,h3⟩:=(xH wT).at_ m _ hk
 refine⟨_,e,Et wT hk,?_,h3⟩;show (tN (oh all)).1.getD m 0=_;rw [gd_,h1];rfl
end Pu
open Go.RowKit
namespace T
def acN (b:Bool) (e r n:Int):List V_:=[.bool b,I_ e,I_ r,I_ n]
def rA (gr gs:Nat) (E:bH) (ve vr vc:V_) (rest:List V_) (C:bI) (jP jE:V_) (w:W_) (e:Ending) (w':W_):Prop:=
 ∃D,qF E C D/\D.err=0/\D.pos=C.pos/\w.grownBy w' (some gr)/\
  ((e=.returned (.agg #[.bool true,I_ 0,I_ D.rule,I_ D.marked])/\Pu.look E D=.wait/\RM w' gr gs E ve vr vc rest D jP jE)\/
   ∃F er,e=.returned (.agg #[.bool false,I_ er,I_ F.rule,I_ F.marked])/\Pu.look E D=.stop F er/\RM w' gr gs E ve vr vc rest F jP jE)
theorem NY:(Tryz.prog.info? 247).map (·.size)=some 4:=by kernel_rfl
theorem Fv {a b c d:V_} {A:Act} {Q:Ending->W_->Prop} (ht:A.tmps.getD 2 undef=p_ g) (hd:A.defers=[]) (h:dh W g 247 [a,b,c,d]) (hq:Q (.returned (.agg #[a,b,c,d])) W) :
  bodyPost Tryz.prog Tryz.f130 Q .ret A W:=by
 refine br_ (v:=.agg #[a,b,c,d]) ?_ hd hq;rw [tY Tryz.results130,ht];exact run_loadVar_row W g 247 247 #[a,b,c,d] (0,0) _ h Tryz.underlying247 rfl NY
structure Rx (w:W_) (g0 go:Nat) (m:Int × Int) (W:W_):Prop where
 be:B_ w W
 res:dh W g0 247 (acN false 0 0 0)
 o:dh W go 247 (acN false 0 m.1 m.2)
theorem Rx.below {go:Nat} {m:Int × Int} (h:Rx w g0 go m W) (hb:B_ W W'):Rx w g0 go m W':=⟨iT h.be hb,bN h.res hb (bO h.res),bN h.o hb (bO h.o)⟩
theorem Ma (h:B_ w W):w.grownBy W (some g):=⟨h.os,h.tape,h.output,h.size,fun k hk _=>h.block k hk⟩
abbrev bk (W:W_) (g0:Nat) (a b c d:V_):W_:=(((W.setCell (a_ g0 0) a).setCell (a_ g0 1) b).setCell (a_ g0 2) c).setCell (a_ g0 3) d
theorem back (hb:B_ w W) (hr:dh W g0 247 (acN false 0 0 0)) (hg:w.heap.size<=g0) (a b c d:V_):B_ w (bk W g0 a b c d)/\dh (bk W g0 a b c d) g0 247 [a,b,c,d]:=
 ⟨(((hb.setCell hg _).setCell hg _).setCell hg _).setCell hg _,cO (cO (cO (cO hr 0 a) 1 b) 2 c) 3 d⟩
theorem Rx.mark {go:Nat} {m:Int × Int} (h:Rx w g0 go m W) (hg:w.heap.size<=go) (ne:g0≠go) (r n:Int):Rx w g0 go (r,n) ((W.setCell (a_ go 2) (I_ r)).setCell (a_ go 3) (I_ n)):=
 ⟨(h.be.setCell hg _).setCell hg _,dB (dB h.res ne _ _) ne _ _,cO (cO h.o 2 (I_ r)) 3 (I_ n)⟩
theorem acj {all:List aC} (hT:wE all mode K) {s:Y_} {p:Nat} {r:Int} (hr:oH all mode (Pu.wd s p n) r):Pu.mk K s p (n+1)=if 0<=r/\0<n then (r,(n:Int)) else Pu.mk K s p n:=by
 rw [Ti];by_cases hn:0<n
 .have e:Pu.RK K (Pu.wd s p n)=r:=(hT.first (aaB s p n) (fun h=>by have:=ae8 s p n;rw [h] at this;simp at this;omega)).zq hr;rw [e]
  have h2:r≠-1↔0<=r:=by
   rcases hr with ⟨h,_⟩ | ⟨i,x,h,_⟩
   .omega
   .omega
  by_cases c:0<=r
  .rw [if_pos ⟨hn,h2.2 c⟩,if_pos ⟨c,hn⟩]
  .rw [if_neg (fun h=>c (h2.1 h.2)),if_neg (fun h=>c h.1)]
 .rw [if_neg (fun h=>hn h.1),if_neg (fun h=>hn h.2)]
section
variable {gr gs:Nat} {E:bH} {ve vr vc:V_} {rest:List V_} {C D D' F:bI} {jP jE:V_} {w V:W_} {K:List aA} {n p:Nat} {er:Int}
theorem Yd (h:Pu.AtS E C K n F) (m:RM V gr gs E ve vr vc rest C jP jE):RM V gr gs E ve vr vc rest F jP jE:=by obtain⟨s,i,c,rfl⟩:=h;exact m.MN rfl
theorem Ja (h:Pu.AtS E C K n F) (hp:C.pos.toNat=p):F.rule=(Pu.mk K E.s p (n+1)).1/\F.marked=(Pu.mk K E.s p (n+1)).2/\F.err=C.err/\F.pos=C.pos:=by obtain⟨s,i,c,rfl⟩:=h;rw [<-hp];exact⟨rfl,rfl,rfl,rfl⟩
theorem Fh (hR:qF E C D) (h1:qF E D D') (s1:Pu.AtS E C K n D') (hl:Pu.look E D'=.stop F er) (s2:Pu.AtS E C K n F) (he:C.err=0) (m:RM w gr gs E ve vr vc rest C jP jE) (hb:B_ w V) (hp:C.pos.toNat=p):rA gr gs E ve vr vc rest C jP jE w (.returned (.agg #[.bool false,I_ er,I_ (Pu.mk K E.s p (n+1)).1,I_ (Pu.mk K E.s p (n+1)).2])) V:=by have v1:=Ja s1 hp;have v2:=Ja s2 hp;exact⟨D',hR.trans h1,v1.2.2.1.trans he,v1.2.2.2,Ma hb,.inr ⟨F,er,by rw [v2.1,v2.2.1],hl,Yd s2 (m.below hb)⟩⟩
theorem ZZ (hR:qF E C D) (h1:qF E D D') (s1:Pu.AtS E C K n D') (hl:Pu.look E D'=.wait) (he:C.err=0) (m:RM w gr gs E ve vr vc rest C jP jE) (hb:B_ w V) (hp:C.pos.toNat=p):rA gr gs E ve vr vc rest C jP jE w (.returned (.agg #[.bool true,I_ 0,I_ (Pu.mk K E.s p (n+1)).1,I_ (Pu.mk K E.s p (n+1)).2])) V:=by have v1:=Ja s1 hp;exact⟨D',hR.trans h1,v1.2.2.1.trans he,v1.2.2.2,Ma hb,.inl ⟨by rw [v1.1,v1.2.1],hl,Yd s1 (m.below hb)⟩⟩
end
theorem NF (f:Nat->Int) (gr gs:Nat) (E:bH) (ve vr vc:V_) (rest:List V_) (C:bI) (jP jE:V_) (w:W_) (gd:Pu.Good E f) (h:wD E f C) (he:C.err=0) (hpos:C.pos<E.s.size) (hs:E.s.size<=1099511627776) (m:RM w gr gs E ve vr vc rest C jP jE)
  (hfresh:C.ins=Pu.aU E.p.ents C.mode.toNat/\C.c=0/\C.looked=0/\C.rule=0/\C.marked=0) :
  C_ 130 #[p_ gr] w (rA gr gs E ve vr vc rest C jP jE w):=by
 obtain⟨all,gT,rfl,hp,hRu,wT⟩:=m.l;have hmd:=h.mode;obtain⟨mm,hmm⟩:=Int.eq_ofNat_of_zero_le hmd.1;have EL:(lS all).ents.length=Pu.aV all:=by have:=(xH wT).ents;rw [xO] at this;exact this
 have hml:mm<Pu.aV all:=by rw [hp,EL] at hmd;omega
 obtain⟨K,e0,hT,he0,hLy⟩:=Pj wT hml
 have hF:ze E C:=⟨he,⟨h.pos,hpos⟩,hfresh.2.2.1,hfresh.2.2.2.1,hfresh.2.2.2.2⟩
 obtain⟨st,hSt,hAt⟩:=Ya hF (e:=e0) (by rw [hp];exact hLy) (by rw [hfresh.1,hp,hmm];exact he0);have YU:=gd.most;obtain⟨p,hpp⟩:=Int.eq_ofNat_of_zero_le h.pos;have hpn:C.pos.toNat=p:=by rw [hpp];rfl
 have b1:B_ w ((w.alloc (c_ #[.bool false,I_ 0,I_ 0,I_ 0] 247)).alloc (c_ #[.bool false,I_ 0,I_ 0,I_ 0] 247)):=(mi _).alloc (by simp) _;have I0:Hid (Rx w w.heap.size (w.heap.size+1) (Pu.mk K E.s p 0) ((w.alloc (c_ #[.bool false,I_ 0,I_ 0,I_ 0] 247)).alloc (c_ #[.bool false,I_ 0,I_ 0,I_ 0] 247))):=by have h1:=hn_ w (c_ #[.bool false,I_ 0,I_ 0,I_ 0] 247);have h2:=hn_ (w.alloc (c_ #[.bool false,I_ 0,I_ 0,I_ 0] 247)) (c_ #[.bool false,I_ 0,I_ 0,I_ 0] 247);rw [wa_] at h2;exact⟨b1,dx h1 _,h2⟩
 have CEL:Hid (∀V,B_ w V->V.cell? (a_ gr 0)=some (p_ gs)/\V.cell? (a_ gs 3)=some (p_ gT)/\V.cell? (a_ gr 4)=some (I_ C.mode)/\V.cell? (a_ gs 6)=some (.string E.s)/\V.cell? (a_ gr 1)=some (I_ p)):=fun V hb=>by have mV:=m.below hb;refine⟨bM (j:=0) mV.fA rfl,bM (j:=3) mV.scn rfl,bM (j:=4) mV.fA rfl,bM (j:=6) mV.scn rfl,?_⟩;rw [<-hpp];exact bM (j:=1) mV.fA rfl
 have RU:=bK hRu;have MM:=bK m;have HF:=bK hF;have HK:=bK hT.kok;have HS:=bK hSt;have HT:Hid (wE all C.mode K):=by rw [hmm];exact hT
 have A0:Hid (∃D,qF E C D/\Pu.AtK E C K st 0 D):=⟨C,.refl _,hAt⟩
 have HPN:=bK hpn;have HPP:=bK hpp;have HE:=bK he;have m64:E.most<=64:=YU.2;have m1:1<=E.most:=YU.1;have ps:p<E.s.size:=by omega
 have sz:E.s.size<=1099511627776:=hs;have NXT:Hid (∀(n:Nat) (V:W_),n<=64->B_ w V->C_ 148 #[p_ gs,I_ p,I_ n] V (sN (I_ (nx E p n)) V)):=fun n V hn hb=>ZH gs E _ vr vc rest p n V (m.below hb).scn (by omega) (by omega) hs
 have ng0:w.heap.size<=w.heap.size+1:=Nat.le_succ _;have ngn:w.heap.size≠w.heap.size+1:=by omega
 clear hRu m hF hT hSt hAt YU h he hpos hs hfresh hp wT EL hml he0 hLy hmd hpn hpp b1 hmm gd;go_enter Tryz.func130,Tryz.ntmps130
 go_wp2_with fail
 generalize (w.alloc (c_ #[.bool false,I_ 0,I_ 0,I_ 0] 247)).alloc (c_ #[.bool false,I_ 0,I_ 0,I_ 0] 247)=W1 at *;generalize w.heap.size+1=go at *
 go_loopg [4,5,6,7] 66 (fun gk nv _ _ _ wx=>∃n:Nat,n<=64/\gk=66-n/\nv=I_ n/\p+n<=E.s.size/\(n:Int)<=E.most/\Rx w w.heap.size go (Pu.mk K E.s p n) wx/\∃D,qF E C D/\Pu.AtK E C K st n D)
 case atStart=>exact⟨0,by omega,rfl,rfl,by omega,by omega,I0.o,A0.o⟩
 case round=>
  clear I0 A0;obtain⟨n,n64,rfl,rfl,pn,nm,hI,D,hR,hA⟩:=hrel;have HI:=bK hI;have HR:=bK hR;have HA:=bK hA;have bd:B_ w wr.drew:=hI.be.drew;have S1:=CEL.o wr.drew bd;have wpn:=xF ((p:Int)+n);have tpn:((p:Int)+n).toNat=p+n:=by omega
  have wn:=kg n;have p0:=jg p;have p1:(p:Int)<=p+(n:Int):=by omega
  have p2:(p:Int)+n<=(E.s.size:Int):=by omega
  have CA:=bK (Uo (E.s.extract p (p+n)) all gT C.mode wr.drew (RU.o.below bd) (by rw [ByteArray.size_extract];omega));have CUT:=bK (acY pn);clear hI hR hA
  go_wp2_with fail
  go_region_held3 (fun w'=>w'.cell? (a_ gr 0)=some (p_ gs)/\w'.cell? (a_ gs 3)=some (p_ gT)/\w'.cell? (a_ gr 4)=some (I_ C.mode)/\w'.cell? (a_ gs 6)=some (.string E.s)/\w'.cell? (a_ gr 1)=some (I_ p)) (first | assumption | exact CEL.o _ (iT bd hb)) (first | (go_at_call 147;refine CA.o.mono ?_;rintro e w' ⟨r,on,rfl,hb,hfm,hon⟩))
  have H2:Hid (Rx w w.heap.size go (Pu.mk K E.s p n) w'):=(HI.o.below (Below.drew (Br_ wr.heap.size wr))).below hb;have FM:Hid (oH all C.mode (Pu.wd E.s p n) r):=by show oH _ _ _ _;rw [<-CUT.o];exact hfm
  have ON:Hid (on=true↔Pu.OnK K (Pu.wd E.s C.pos.toNat n)):=by show _↔_;rw [HPN.o,HT.o.onw (aaB _ _ _),<-CUT.o];exact hon
  have MK:=bK (acj HT.o FM.o);clear hb hfm hon S1 CA CUT bd HI p1 p2 wpn tpn FM;generalize w'=W2 at *;go_upto_region 5 with (fail)
  go_cut [48] from 8 to 77 (fun b wx=>b=.bool (decide (0<=r/\0<n))/\wx=W2)
  case first=>
   by_cases c1:0<=r
   .have d1:decide ((0:Int)<=r)=true:=dt_ c1;by_cases c2:0<n
    focus
     have d2:=nV (0:Int) (n:Int);have d3:Hid (decide (0<=r/\0<n)=true):=dt_ ⟨c1,c2⟩
    rotate_left
    focus
     have d2:=mM (0:Int) (n:Int);have d3:Hid (decide (0<=r/\0<n)=false):=dn_ (fun h=>c2 h.2)
    all_goals
     have c2:=bK c2;clear c1
     go_wp2_with fail
     go_meet
     case rel=>exact⟨by rw [d3.o],rfl⟩
   .have d1:decide ((0:Int)<=r)=false:=dn_ c1;have d3:Hid (decide (0<=r/\0<n)=false):=dn_ (fun h=>c1 h.1);clear c1
    go_wp2_with fail
    go_meet
    case rel=>exact⟨by rw [d3.o],rfl⟩
  case rest=>
  obtain⟨rfl,rfl⟩:=hcut
  go_upto_if 48 with (fail)
  go_cut [] from 8 to 77 (fun wx=>Rx w w.heap.size go (Pu.mk K E.s p (n+1)) wx)
  case first=>
   by_cases c:0<=r/\0<n
   .have R:Hid (Rx w w.heap.size go (Pu.mk K E.s p (n+1)) ((wc.setCell (a_ go 2) (I_ r)).setCell (a_ go 3) (I_ n))):=by have:=H2.o.mark ng0 ngn r (n:Int);show Rx _ _ _ _ _;rw [MK.o,if_pos c];exact this
    have o2:=bP 2 H2.o.o rfl;have o3:=bP 3 H2.o.o rfl;have f2:=bL H2.o.o 2;have f3:=bL H2.o.o 3;have d3:decide (0<=r/\0<n)=true:=dt_ c;rw [d3];clear MK c H2 d3;generalize Pu.mk K E.s p n=Dc at *
    go_wp2_with fail
    go_meet
    case rel=>exact R.o
   .have R:Hid (Rx w w.heap.size go (Pu.mk K E.s p (n+1)) wc):=by have:=H2.o;show Rx _ _ _ _ _;rw [MK.o,if_neg c];exact this
    have d3:decide (0<=r/\0<n)=false:=dn_ c;rw [d3];clear MK c H2 d3
    go_wp2_with fail
    go_meet
    case rel=>exact R.o
  case rest=>
   clear H2 MK;have H3:=bK hcut;have CW:=CEL.o wc hcut.be;obtain⟨cw0,_,_,_,cw1⟩:=CW;clear hcut;have z0:=bP 0 H3.o.res rfl;have z1:=bP 1 H3.o.res rfl;have z2:=bP 2 H3.o.res rfl;have z3:=bP 3 H3.o.res rfl;have fz0:=bL H3.o.res 0;have fz1:=bL H3.o.res 1;have fz2:=bL H3.o.res 2;have fz3:=bL H3.o.res 3;have y0:=bP 0 H3.o.o rfl;have y1:=bP 1 H3.o.o rfl;have y2:=bP 2 H3.o.o rfl;have y3:=bP 3 H3.o.o rfl;have fy0:=bL H3.o.o 0;have fy1:=bL H3.o.o 1;have ngn':go≠w.heap.size:=Ne.symm ngn
   cases on with
   | false=>
    obtain⟨D',F,r1,s1,l1,s2⟩:=Yc HF.o HK.o HA.o (fun hh=>by have:=ON.o.2 hh;cases this);have RES:Hid (∀V,B_ w V->rA gr gs E (p_ gT) vr vc rest C jP jE w (.returned (.agg #[.bool false,I_ 0,I_ (Pu.mk K E.s p (n+1)).1,I_ (Pu.mk K E.s p (n+1)).2])) V):=fun V hb=>Fh HR.o r1 s1 l1 s2 HE.o MM.o hb HPN.o
    have BK:=bK (back H3.o.be H3.o.res di (.bool false) (I_ 0) (I_ (Pu.mk K E.s p (n+1)).1) (I_ (Pu.mk K E.s p (n+1)).2));clear r1 s1 l1 s2 H3 ON HA HR;generalize Pu.mk K E.s p (n+1)=mk1 at *;go_wp2;exact Fv rfl rfl BK.o.2 (RES.o _ BK.o.1)
   | true=>
    have OK1:Hid (Pu.OnK K (Pu.wd E.s C.pos.toNat n)):=ON.o.1 rfl;have bd2:B_ w wc.drew:=H3.o.be.drew;have S2:=CEL.o wc.drew bd2;have NC:=bK (NXT.o n wc.drew n64 bd2);clear cw0 cw1
    go_wp2_with fail
    go_region_held3 (fun w'=>w'.cell? (a_ gr 0)=some (p_ gs)/\w'.cell? (a_ gs 3)=some (p_ gT)/\w'.cell? (a_ gr 4)=some (I_ C.mode)/\w'.cell? (a_ gs 6)=some (.string E.s)/\w'.cell? (a_ gr 1)=some (I_ p)) (first | assumption) (first | (go_at_call 148;refine NC.o.mono ?_;rintro e w' ⟨rfl,rfl⟩))
    have H4:=bK (H3.o.below (Below.drew (Br_ wc.heap.size wc)));obtain⟨D',F,r1,s1,s2,la,lb⟩:=Yb HF.o HK.o HA.o OK1.o;clear z0 z1 z2 z3 fz0 fz1 fz2 fz3 y0 y1 y2 y3 fy0 fy1 H3 S2 NC bd2;generalize wc.drew=W4 at *;have z0:=bP 0 H4.o.res rfl;have z1:=bP 1 H4.o.res rfl;have z2:=bP 2 H4.o.res rfl;have z3:=bP 3 H4.o.res rfl;have fz0:=bL H4.o.res 0;have fz1:=bL H4.o.res 1;have fz2:=bL H4.o.res 2;have fz3:=bL H4.o.res 3;have y0:=bP 0 H4.o.o rfl;have y1:=bP 1 H4.o.o rfl;have y2:=bP 2 H4.o.o rfl;have y3:=bP 3 H4.o.o rfl;have fy0:=bL H4.o.o 0;have fy1:=bL H4.o.o 1;by_cases a1:p+n<E.s.size
    .by_cases a2:(n:Int)=E.most
     .have en:nx E (p:Int) (n:Int)=3:=by unfold nx;rw [if_pos (by omega),if_pos a2]
      have RES:Hid (∀V,B_ w V->rA gr gs E (p_ gT) vr vc rest C jP jE w (.returned (.agg #[.bool false,I_ 5,I_ (Pu.mk K E.s p (n+1)).1,I_ (Pu.mk K E.s p (n+1)).2])) V):=fun V hb=>Fh HR.o r1 s1 (lb (by rw [HPP.o];omega) (by omega)) s2 HE.o MM.o hb HPN.o
      have BK:=bK (back (H4.o.be.setCell ng0 (I_ 5)) (dB H4.o.res ngn 1 (I_ 5)) di (.bool false) (I_ 5) (I_ (Pu.mk K E.s p (n+1)).1) (I_ (Pu.mk K E.s p (n+1)).2));rw [en];clear r1 s1 s2 la lb H4 ON HA HR en a2;generalize Pu.mk K E.s p (n+1)=mk1 at *;go_wp2;exact Fv rfl rfl BK.o.2 (RES.o _ BK.o.1)
     .have en:nx E (p:Int) (n:Int)=0:=by unfold nx;rw [if_pos (by omega),if_neg a2]
      obtain⟨D2,g1,g2⟩:=agq HF.o HK.o HS.o HA.o OK1.o (by rw [HPP.o];omega) (by omega);have NX:Hid (∃D,qF E C D/\Pu.AtK E C K st (n+1) D):=⟨D2,HR.o.trans g1,g2⟩;rw [en];clear r1 s1 s2 la lb ON HA HR en g1 g2;go_wp2;go_roundg (66-(n+1))
      case measure=>omega
      case rel=>exact⟨n+1,by omega,rfl,by go_num,by omega,by omega,H4.o,NX.o⟩
    .have la':=la (by rw [HPP.o];omega)
     cases hE:E.ended with
     | true=>?_
     | false=>?_
     focus
      have en:nx E (p:Int) (n:Int)=2:=by unfold nx;rw [if_neg (by omega),hE];rfl
      rw [hE,if_pos rfl] at la';have RES:Hid (∀V,B_ w V->rA gr gs E (p_ gT) vr vc rest C jP jE w (.returned (.agg #[.bool false,I_ 0,I_ (Pu.mk K E.s p (n+1)).1,I_ (Pu.mk K E.s p (n+1)).2])) V):=fun V hb=>Fh HR.o r1 s1 la' s2 HE.o MM.o hb HPN.o
      have BK:=bK (back H4.o.be H4.o.res di (.bool false) (I_ 0) (I_ (Pu.mk K E.s p (n+1)).1) (I_ (Pu.mk K E.s p (n+1)).2))
     rotate_left
     focus
      have en:nx E (p:Int) (n:Int)=1:=by unfold nx;rw [if_neg (by omega),hE];rfl
      rw [hE,if_neg (by decide)] at la';have RES:Hid (∀V,B_ w V->rA gr gs E (p_ gT) vr vc rest C jP jE w (.returned (.agg #[.bool true,I_ 0,I_ (Pu.mk K E.s p (n+1)).1,I_ (Pu.mk K E.s p (n+1)).2])) V):=fun V hb=>ZZ HR.o r1 s1 la' HE.o MM.o hb HPN.o
      have BK:=bK (back (H4.o.be.setCell ng0 (.bool true)) (dB H4.o.res ngn 0 (.bool true)) di (.bool true) (I_ 0) (I_ (Pu.mk K E.s p (n+1)).1) (I_ (Pu.mk K E.s p (n+1)).2))
     all_goals
      rw [en];clear r1 s1 s2 la lb la' H4 ON HA HR en hE;generalize Pu.mk K E.s p (n+1)=mk1 at *;go_wp2;exact Fv rfl rfl BK.o.2 (RES.o _ BK.o.1)
end T
namespace T
theorem Wm:(Tryz.prog.info? 59).map (·.size)=some 3:=by kernel_rfl
theorem Z4 {a b c:V_} {A:Act} {Q:Ending->W_->Prop} (ht:A.tmps.getD 4 undef=p_ g) (hd:A.defers=[]) (h:dh W g 59 [a,b,c]) (hq:Q (.returned (.agg #[a,b,c])) W) :
  bodyPost Tryz.prog Tryz.f149 Q .ret A W:=by
 refine br_ (v:=.agg #[a,b,c]) ?_ hd hq;rw [tY Tryz.results149,ht];exact run_loadVar_row W g 59 59 #[a,b,c] (0,0) _ h Tryz.underlying59 rfl Wm
def Z0 (r:mJ):Array V_:=#[I_ r.emit,I_ r.act,I_ r.mode]
theorem Lists.akH {p:oC} {ve vr vc v:V_} (h:Lists W p ve vr vc) (ho:W.ownsRow base 74 5 v n xs) (hg:W.grownBy W' v.ownBlock):Lists W' p ve vr vc:=by obtain⟨all,g,h1,h2,⟨B,s0,vn,al,cl,k1,k2,k3,k4⟩,h4⟩:=h;exact⟨all,g,h1,h2,⟨B,s0,vn,al,cl,k1,k2,⟨fK ho k3.rb (by decide) hg,k3.up,fC k3.own ho (by decide) hg⟩,fC k4 ho (by decide) hg⟩,h4⟩
theorem Lists.akG {p:oC} {ve vr vc v:V_} (h:Lists W p ve vr vc) (ho:W.ownsRow base 3 1 v n xs) (hg:W.grownBy W' v.ownBlock):Lists W' p ve vr vc:=by obtain⟨all,g,h1,h2,⟨B,s0,vn,al,cl,k1,k2,k3,k4⟩,h4⟩:=h;exact⟨all,g,h1,h2,⟨B,s0,vn,al,cl,k1,k2,⟨fK ho k3.rb (by decide) hg,k3.up,fC k3.own ho (by decide) hg⟩,fC k4 ho (by decide) hg⟩,h4⟩
theorem Nz (gr gs:Nat) (E:bH) (ve vr vc:V_) (rest:List V_) (C:bI) (jP jE:V_) (k:Nat) (w:W_) (m:RM w gr gs E ve vr vc rest C jP jE) (hk:k<E.p.rules.length) :
  C_ 149 #[p_ gr,I_ k] w (Du (.agg (Z0 (Pu.rg E.p.rules k))) w):=by
 obtain⟨all,gT,rfl,hp,⟨B,s0,vn,al,cl,hL,aek,hdr,hln⟩,wT⟩:=m.l;have RLn:(lS all).rules.length=all.length:=(Fp hL).2;have ll:(fG all).ls.length=all.length:=sP all;have hka:k<all.length:=by rw [hp,RLn] at hk;exact hk
 obtain⟨x,hx⟩:=qG all k hka;have Mi:=(zi all hL.zl.1).get k x hx;obtain⟨gv,cv,ev,_,_⟩:=dJ hln (by rw [ll];omega);cases ev
 have aW:w.cell? (a_ gv (k*5+1))=some (I_ x.emit):=bT hln (pG Mi (j:=1) (by omega));have q1:w.cell? (a_ gv (k*5+1+1))=some (I_ x.act):=bT hln (pG Mi (j:=2) (by omega));have q2:w.cell? (a_ gv (k*5+1+2))=some (I_ x.md):=bT hln (pG Mi (j:=3) (by omega));have e2:=bP 2 hdr.rb rfl;rw [ll] at e2;have rgk:Pu.rg E.p.rules k=⟨x.emit,x.act,x.md⟩:=by rw [hp];exact acK all hx
 rw [rgk];have c0:=bP 0 m.fA rfl;have s3:=bP 3 m.scn rfl;have lr:=bO m.fA;have ls:=bO m.scn;have lv:=(lI hln).2;have lt:=bO hdr.rb;have ne1:w.heap.size≠gr:=by omega
 have yZ:w.heap.size≠gs:=by omega
 have ne3:w.heap.size≠gv:=by omega
 have ne4:w.heap.size≠gT:=by omega
 have aco:gr≠w.heap.size:=by omega
 have ZF:gs≠w.heap.size:=by omega
 have ahl:gv≠w.heap.size:=by omega
 have ahm:gT≠w.heap.size:=by omega
 have hki:(k:Int)<all.length:=by omega
 have hk0:=jg k;unfold Z0;clear m rgk Mi hx hdr hln hL wT hp hk RLn;go_enter Tryz.func149,Tryz.ntmps149
 go_wp2_with fail
 exact Z4 rfl rfl (hn_ w _) ⟨rfl,(Br_ w.heap.size w).alloc di _⟩
theorem oQ {B:Nat} {w0:W_} (h:Below B w0 W) (hg:B<=g) (j:Nat) (u:V_):Below B w0 (W.setCell (a_ g j) u):=
 ⟨h.os,h.tape,h.output,by have:=h.size;simpa [World.setCell] using this,fun k hk=>by rw [Below.heap_setCell _ _ _ _ (by show k≠g;omega)];exact h.block k hk⟩
theorem wJ {B:Nat} {w0:W_} {row:Option Nat} (h:Below B w0 W) (hB:B<=W.heap.size) (hg:W.grownBy W' row) (hr:∀g,row=some g->B<=g):Below B w0 W':=
 ⟨hg.1.trans h.os,hg.2.trans h.tape,hg.3.trans h.output,lt_ h.size hg.size,fun k hk=>by
  rw [hg.block k (by omega) (fun e=>by have:=hr k e.symm;omega)]
  exact h.block k hk⟩
structure TR (B:Nat) (w0:W_) (gr gs:Nat) (E:bH) (ve vr vc:V_) (rest:List V_) (C:bI) (jP jE:V_) (W:W_):Prop where
 m:RM W gr gs E ve vr vc rest C jP jE
 st:W.ownsRow B 3 1 jP C.iW.toNat (bY (C.kK.take C.iW.toNat))
 aZ:W.ownsRow B 74 5 jE C.dV.length (eB C.dV)
 lo:∀g,ve.ownBlock=some g->g<B
 be:Below B w0 W
 hB:B<=gr
section
variable {B:Nat} {w0:W_} {gr gs:Nat} {E:bH} {ve vr vc:V_} {rest:List V_} {C D:bI} {jP jE:V_} {W W':W_}
theorem TR.sz (h:TR B w0 gr gs E ve vr vc rest C jP jE W):B<=W.heap.size:=by have:=bO h.m.fA;have:=h.hB;omega
theorem TR.below (h:TR B w0 gr gs E ve vr vc rest C jP jE W) (hb:B_ W W'):TR B w0 gr gs E ve vr vc rest C jP jE W':=
 ⟨h.m.below hb,bU h.st hb di,bU h.aZ hb di,h.lo,by
  have s:=h.sz
  exact⟨hb.os.trans h.be.os,hb.tape.trans h.be.tape,hb.output.trans h.be.output,lt_ h.be.size hb.size,fun k hk=>by rw [hb.block k (by omega)];exact h.be.block k hk⟩,h.hB⟩
theorem TR.alloc (h:TR B w0 gr gs E ve vr vc rest C jP jE W) (o:Obj):TR B w0 gr gs E ve vr vc rest C jP jE (W.alloc o):=h.below (mi o)
theorem TR.drewN (h:TR B w0 gr gs E ve vr vc rest C jP jE W) (n:Nat):TR B w0 gr gs E ve vr vc rest C jP jE (W.drewN n):=h.below (bd_ (Br_ _ _) n)
theorem TR.drew (h:TR B w0 gr gs E ve vr vc rest C jP jE W):TR B w0 gr gs E ve vr vc rest C jP jE W.drew:=h.below (Br_ _ _).drew
theorem TR.set (h:TR B w0 gr gs E ve vr vc rest C jP jE W) (j:Nat) (u:V_) (he:(lL gs C jP jE).set j u=lL gs D jP jE) (h1:D.iW=C.iW) (h2:D.kK=C.kK) (h3:D.dV=C.dV):TR B w0 gr gs E ve vr vc rest D jP jE (W.setCell (a_ gr j) u):=by
 have hg:=gs_ W gr j u;refine⟨h.m.set j u he,?_,?_,h.lo,oQ h.be h.hB j u,h.hB⟩
 .rw [h1,h2];exact dM h.st h.m.fA (by decide) hg
 .rw [h3];exact dM h.aZ h.m.fA (by decide) hg
theorem TR.MN (h:TR B w0 gr gs E ve vr vc rest C jP jE W) (he:lL gs C jP jE=lL gs D jP jE) (h1:D.iW=C.iW) (h2:D.kK=C.kK) (h3:D.dV=C.dV):TR B w0 gr gs E ve vr vc rest D jP jE W:=
 ⟨h.m.MN he,by rw [h1,h2];exact h.st,by rw [h3];exact h.aZ,h.lo,h.be,h.hB⟩
theorem TR.o (h:TR B w0 gr gs E ve vr vc rest C jP jE W) {go t:Nat} {ys:List V_} (hb:dh W go t ys) (h1:t≠3/\t≠99) (h2:t≠161) (h3:t≠101) (h6:t≠74) (h4:gr≠go) (h5:gs≠go) (hB:B<=go) (j:Nat) (u:V_):TR B w0 gr gs E ve vr vc rest C jP jE (W.setCell (a_ go j) u):=by have hg:=gs_ W go j u;exact⟨h.m.o hb h1.2 h2 h3 h4 h5 j u,dM h.st hb h1.1 hg,dM h.aZ hb h6 hg,h.lo,oQ h.be hB j u,h.hB⟩
theorem TR.token (h:TR B w0 gr gs E ve vr vc rest C jP jE W) {v2:V_} {t:bJ} (hg:W.grownBy W' jE.ownBlock) (ho:W'.ownsRow B 74 5 v2 (C.dV.length+1) (eB C.dV++[I_ t.rule,I_ t.pos,I_ t.len,I_ t.line,I_ t.iH])) :
  TR B w0 gr gs E ve vr vc rest { C with dV:=C.dV++[t] } jP v2 (W'.setCell (a_ gr 7) v2):=by
 have mb:=fK h.aZ h.m.fA (by decide) hg
 have m1:RM W' gr gs E ve vr vc rest C jP jE:=⟨mb,fK h.aZ h.m.scn (by decide) hg,h.m.l.akH h.aZ hg⟩
 have hs:=gs_ W' gr 7 v2;have st:=fC h.st h.aZ (by decide) hg;refine⟨m1.set 7 v2 rfl,dM st mb (by decide) hs,?_,h.lo,oQ (wJ h.be h.sz hg (fun g e=>(ol_ h.aZ g e).1)) h.hB _ _,h.hB⟩;show World.ownsRow _ _ _ _ _ (C.dV++[t]).length (eB (C.dV++[t]));rw [ug,la_,List.length_singleton];exact dM ho mb (by decide) hs
theorem TR.push (h:TR B w0 gr gs E ve vr vc rest C jP jE W) {v2:V_} {l:List Int} {d:Int} (hg:W.grownBy W' jP.ownBlock) (hd:d=C.iW+1) (hd0:0<=C.iW) (ho:W'.ownsRow B 3 1 v2 (C.iW.toNat+1) (bY (l.take (C.iW.toNat+1)))) :
  TR B w0 gr gs E ve vr vc rest { C with kK:=l,iW:=d } v2 jE (W'.setCell (a_ gr 5) v2):=by
 have mb:=fK h.st h.m.fA (by decide) hg
 have m1:RM W' gr gs E ve vr vc rest C jP jE:=⟨mb,fK h.st h.m.scn (by decide) hg,h.m.l.akG h.st hg⟩
 have hs:=gs_ W' gr 5 v2;have aZ:=fC h.aZ h.st (by decide) hg;have e:d.toNat=C.iW.toNat+1:=by omega
 refine⟨m1.set 5 v2 rfl,?_,dM aZ mb (by decide) hs,h.lo,oQ (wJ h.be h.sz hg (fun g e=>(ol_ h.st g e).1)) h.hB _ _,h.hB⟩;show World.ownsRow _ _ _ _ _ d.toNat (bY (l.take d.toNat));rw [e];exact dM ho mb (by decide) hs
theorem TR.pop {cap:Nat} (h:TR B w0 gr gs E ve vr vc rest C (s_ g n cap) jE W) (hn:C.iW.toNat=n) (hn1:0<n) (hl:n<=C.kK.length) {d:Int} (hd:d.toNat=n-1) :
  TR B w0 gr gs E ve vr vc rest { C with iW:=d } (s_ g (n-1) cap) jE (W.setCell (a_ gr 5) (s_ g (n-1) cap)):=by
 have hs:=gs_ W gr 5 (s_ g (n-1) cap);refine⟨h.m.set 5 _ rfl,?_,dM h.aZ h.m.fA (by decide) hs,h.lo,oQ h.be h.hB _ _,h.hB⟩;show World.ownsRow _ _ _ _ _ d.toNat (bY (C.kK.take d.toNat));refine dM ?_ h.m.fA (by decide) hs;have st:=h.st;rw [hn] at st;rw [hd];rcases st with ⟨h1,⟨h2,h3⟩ | ⟨g',cap',cur,h2,h3,h4,h5,h6,h7,h8⟩⟩
 .omega
 .cases h2
  refine⟨by simp [bY];omega,.inr ⟨g,cap,cur,rfl,h3,h4,by omega,h6,h7,?_⟩⟩;have:=congrArg (List.take (n-1)) h8;rw [List.take_take] at this;simp only [Nat.mul_one] at this |-;rw [show min (n-1) n=n-1 by omega] at this;rw [this];simp only [bY,<-List.map_take,List.take_take];rw [show min (n-1) n=n-1 by omega]
end
end T
namespace T
def agd (B:Nat) (w0:W_) (gr gs:Nat) (E:bH) (ve vr vc:V_) (rest:List V_) (C:bI) (e:Ending) (w':W_):Prop:=
 e=.returned (.tuple #[])/\∃jP jE,TR B w0 gr gs E ve vr vc rest C jP jE w'
theorem oo {e size:Nat} {v:V_} (h:w.ownsRow base e size v n xs):∃ao cap,v=.slice ao n cap/\n<=cap/\cap<=9223372036854775807:=by
 rcases h.2 with ⟨rfl,rfl⟩ | ⟨g,cap,cur,rfl,_,_,h5,h6,_⟩
 .exact⟨none,0,rfl,di,by omega⟩
 .exact⟨_,cap,rfl,h5,by unfold maxLen at h6;exact h6⟩
theorem take_set (l:List Int) (d:Nat) (x:Int) (h:d<l.length):(l.set d x).take (d+1)=l.take d++[x]:=by rw [List.take_add_one,List.take_set_of_le di,List.getElem?_set_self h];rfl
theorem SV (a b:Int):(a == b)=decide (a=b):=by
 by_cases h:a=b
 .simp [h]
 .rw [dn_ h];simpa using h
theorem iB {g' t t':Nat} {ys:List V_} (h:dh w g t xs) (h':dh w g' t' ys) (ht:t≠t'):g≠g':=by intro e;subst e;unfold dh at h h';rw [h] at h';simp at h';exact ht h'.2
theorem aat (f:Nat->Int) (B:Nat) (w0:W_) (gr gs:Nat) (E:bH) (ve vr vc:V_) (rest:List V_) (C:bI) (jP jE:V_) (w:W_) (gd:Pu.Good E f) (hh:OO E C) (hm:0<C.marked) (he:C.err=0) (hs:E.s.size<=1099511627776) (h:TR B w0 gr gs E ve vr vc rest C jP jE w) :
  C_ 132 #[p_ gr,I_ C.rule,I_ C.marked] w (agd B w0 gr gs E ve vr vc rest (Pu.take E C 0)):=by
 obtain⟨aS,hi,hz0,hz1,hz2⟩:=ip_ Tryz.info74;obtain⟨i3,hi3,h30,h31,h32⟩:=ip_ Tryz.info3;obtain⟨k,hk⟩:=Int.eq_ofNat_of_zero_le hh.rule.1;obtain⟨n,hn⟩:=Int.eq_ofNat_of_zero_le hh.marked.1;obtain⟨dn,hdn⟩:=Int.eq_ofNat_of_zero_le hh.iW.1;obtain⟨p,hp⟩:=Int.eq_ofNat_of_zero_le hh.pos;obtain⟨ao,cp,rfl,hc1,hc2⟩:=oo h.st;have hkr:k<E.p.rules.length:=by have:=hh.rule.2;omega
 have hn0:0<n:=by omega
 have hd8:dn<=8:=by have:=hh.iW.2;have:=gd.depth;omega
 have hwi:p+n<=E.s.size:=by have:=hh.within;have:=hh.marked;omega
 have hdt:C.iW.toNat=dn:=by omega
 have RU:=bK (fun W m=>Nz gr gs E ve vr vc rest C (.slice ao C.iW.toNat cp) jE k W m hkr);have H0:=bK h;have GD:=bK gd;have HH:=bK hh;have HE:=bK he
 have HN:Hid (C.rule=k/\C.marked=n/\C.iW=dn/\C.pos=p):=⟨hk,hn,hdn,hp⟩
 have ok:=gd.right.2.1.2 k hkr;rw [hk,hn];clear h gd hh he hk hn hm hp hdn;rw [hdt] at RU H0 hc1;clear hdt;generalize hR:Pu.rg E.p.rules k=r at *;have HR:=bK hR;clear hR;go_enter Tryz.func132,Tryz.ntmps132
 go_wp2_with fail
 refine (RU.o _ H0.o.m).mono ?_
 clear RU;rintro e w1 ⟨rfl,hb1⟩;unfold Z0;have H1:=bK ((H0.o.below hb1).alloc (c_ #[I_ r.emit,I_ r.act,I_ r.mode] 59));have KX:Hid (dh (w1.alloc (c_ #[I_ r.emit,I_ r.act,I_ r.mode] 59)) w1.heap.size 59 [I_ r.emit,I_ r.act,I_ r.mode]):=hn_ _ _;have hxB:B<=w1.heap.size:=(H0.o.below hb1).sz;clear H0 hb1
 go_wp2_with fail
 generalize w1.alloc (c_ #[I_ r.emit,I_ r.act,I_ r.mode] 59)=W1 at *;generalize w1.heap.size=gx at *;have x1:=bP 1 KX.o rfl;have c0:=bP 0 H1.o.m.fA rfl;have c5:=bP 5 H1.o.m.fA rfl;have s5:=bP 5 H1.o.m.scn rfl
 go_cut [29] from 9 (fun tv wx=>tv=.bool (decide (r.act=2/\(dn:Int)=E.depth))/\∃nq,wx=W1.drewN nq)
 case first=>
  by_cases a2:r.act=2
  .rw [a2] at x1;go_quiet (fail);go_wp2
   go_meet
   case rel=>exact⟨by simp [a2,SV],_,rfl⟩
  .have d1:(r.act == 2)=false:=by simpa using a2
   go_quiet (fail);go_wp2
   go_meet
   case rel=>exact⟨by simp [a2],_,rfl⟩
 case rest=>
  obtain⟨rfl,nq,rfl⟩:=hcut;have H2:=bK (H1.o.drewN nq);have KX2:Hid (dh (W1.drewN nq) gx 59 [I_ r.emit,I_ r.act,I_ r.mode]):=KX.o;clear x1 c0 c5 s5 H1 KX;generalize W1.drewN nq=W2 at *;have x1:=bP 1 KX2.o rfl;have c5:=bP 5 H2.o.m.fA rfl;have c8:=bP 8 H2.o.m.fA rfl;have f8:=bL H2.o.m.fA 8;by_cases t1:r.act=2/\(dn:Int)=E.depth
  .have WR:Hid (Pu.take E C 0={ C with err:=6 }):=by
    show _=_;have z:Pu.wrong E.p E.depth C=6:=by unfold Pu.wrong;rw [if_neg (by have:=HN.o.2.1;omega),HN.o.1,tn_,HR.o,if_pos ⟨t1.1,by have:=HN.o.2.2.1;omega⟩]
    unfold Pu.take;rw [if_neg (by omega),z,if_pos (by omega)]
   have F1:=bK (H2.o.set 8 (I_ 6) (D:={ C with err:=6 }) rfl rfl rfl rfl);rw [dt_ t1];clear t1;go_wp2;exact br_ (v:=.tuple #[]) (by simp [results,Tryz.results132,go_sem]) rfl ⟨rfl,_,_,by rw [WR.o];exact F1.o⟩
  rw [dn_ t1];go_upto_region 3 with (fail)
  go_cut [43] from 9 (fun tv wx=>tv=.bool (decide (r.act=3/\dn=0))/\wx=W2)
  case first=>
   by_cases a3:r.act=3
   .rw [a3] at x1;go_wp2
    go_meet
    case rel=>exact⟨by simp [a3,SV],rfl⟩
   .have d1:(r.act == 3)=false:=by simpa using a3
    go_wp2
    go_meet
    case rel=>exact⟨by simp [a3],rfl⟩
  case rest=>
   obtain⟨rfl,rfl⟩:=hcut;by_cases t2:r.act=3/\dn=0
   .have WR:Hid (Pu.take E C 0={ C with err:=7 }):=by
     show _=_;have z:Pu.wrong E.p E.depth C=7:=by unfold Pu.wrong;rw [if_neg (by have:=HN.o.2.1;omega),HN.o.1,tn_,HR.o,if_neg (by omega),if_pos ⟨t2.1,by have:=HN.o.2.2.1;omega⟩]
     unfold Pu.take;rw [if_neg (by omega),z,if_pos (by omega)]
    have F1:=bK (H2.o.set 8 (I_ 7) (D:={ C with err:=7 }) rfl rfl rfl rfl);rw [dt_ t2];clear t2;go_wp2;exact br_ (v:=.tuple #[]) (by simp [results,Tryz.results132,go_sem]) rfl ⟨rfl,_,_,by rw [WR.o];exact F1.o⟩
   rw [dn_ t2]
   have TK:Hid (Pu.take E C 0=Pu.took E.p E.s C):=by
    show _=_;have z:Pu.wrong E.p E.depth C=0:=by have h1:=HH.o.iW.2;have h2:=HN.o.2.2.1;unfold Pu.wrong;rw [if_neg (by have:=HN.o.2.1;omega),HN.o.1,tn_,HR.o,if_neg (by omega),if_neg (by omega)]
    unfold Pu.take;rw [if_neg (by omega),z,if_neg (by omega)]
   have T1:Hid (r.act=2->(dn:Int)<E.depth):=fun a=>by have h1:=HH.o.iW.2;have h2:=HN.o.2.2.1;omega
   have T2:Hid (r.act=3->0<dn):=fun a=>by omega
   clear t1 t2 x1 c5 c8 f8;have x0:=bP 0 KX2.o rfl;have xne:gx≠gr:=iB KX2.o H2.o.m.fA (by decide)
   go_upto_if 49 with (fail)
   go_cut [] from 9 (fun wx=>∃Ol,TR B w0 gr gs E ve vr vc rest { C with dV:=if r.emit=1 then C.dV++[⟨C.rule,C.pos,C.marked,C.line,C.iH⟩] else C.dV } (.slice ao dn cp) Ol wx/\dh wx gx 59 [I_ r.emit,I_ r.act,I_ r.mode])
   case first=>
    rcases ok.1 with hem | hem
    .rw [hem];go_wp2
     go_meet
     case rel=>exact⟨jE,by rw [hem];exact H2.o,KX2.o⟩
    .rw [hem];have c7:=bP 7 H2.o.m.fA rfl;have c1:=bP 1 H2.o.m.fA (u:=I_ p) (by rw [<-HN.o.2.2.2];rfl);have c2:=bP 2 H2.o.m.fA rfl;have c3:=bP 3 H2.o.m.fA rfl;have tlen:C.dV.length<=1099511627776:=by have:=HH.o.dV;have:=HN.o.2.2.2;omega
     have gl2:=bO H2.o.m.fA;have hsz:=H2.o.sz;have ne1:gr≠wc.heap.size:=by omega
     have yZ:wc.heap.size≠gr:=by omega
     go_wp2_with fail
     have S1:wc.drew.cell? (a_ gr 1)=some (I_ p)/\wc.drew.cell? (a_ gr 2)=some (I_ C.line)/\wc.drew.cell? (a_ gr 3)=some (I_ C.iH):=⟨c1,c2,c3⟩;refine wd_ (S:=fun w'=>w'.cell? (a_ gr 1)=some (I_ p)/\w'.cell? (a_ gr 2)=some (I_ C.line)/\w'.cell? (a_ gr 3)=some (I_ C.iH)) (by kernel_rfl) S1 (fun dF=>?_);refine bW 0 ?_
     refine bW 1 ?_
     refine bW 2 ?_
     refine bW 3 ?_
     refine bW 5 ?_
     refine bW 6 ?_
     refine bW 7 ?_
     refine bW 8 ?_
     refine bW 9 ?_
     refine bW 10 ?_
     refine bW 11 ?_
     refine bW 12 ?_
     refine bW 13 ?_
     refine bW 14 ?_
     refine bW 15 ?_
     refine bW 16 ?_
     refine bW 17 ?_
     refine bW 18 ?_
     refine bW 19 ?_
     refine xY 4 20 (fun K hK=>?_) (fun K hK=>?_)
     all_goals
      go_simp
      have H3:=bK (H2.o.alloc (c_ #[I_ k,I_ p,I_ n,I_ C.line,I_ C.iH] 74)).drew;have KX3:Hid (dh (wc.alloc (c_ #[I_ k,I_ p,I_ n,I_ C.line,I_ C.iH] 74)).drew gx 59 [I_ r.emit,I_ r.act,I_ r.mode]):=dx KX2.o _;have S2:(wc.alloc (c_ #[I_ k,I_ p,I_ n,I_ C.line,I_ C.iH] 74)).drew.cell? (a_ gr 1)=some (I_ p)/\(wc.alloc (c_ #[I_ k,I_ p,I_ n,I_ C.line,I_ C.iH] 74)).drew.cell? (a_ gr 2)=some (I_ C.line)/\(wc.alloc (c_ #[I_ k,I_ p,I_ n,I_ C.line,I_ C.iH] 74)).drew.cell? (a_ gr 3)=some (I_ C.iH):=⟨bM (j:=1) H3.o.m.fA (u:=I_ p) (by rw [<-HN.o.2.2.2];rfl),bM (j:=2) H3.o.m.fA rfl,bM (j:=3) H3.o.m.fA rfl⟩
     focus refine hK.out _ _ dF (fun fV=>?_)
     rotate_left
     focus
      have c7':=bP 7 H3.o.m.fA rfl;refine hK.out _ _ S2 (fun fV=>?_)
     rotate_left
     all_goals
      clear hK K
      try simp only [Act.put,sb_,sz_,ss_]
     focus refine fq 20 (fun K hK=>?_)
     rotate_left
     focus refine fq 4 (fun K hK=>?_)
     all_goals
      go_simp
      refine hK.out _ _ S2 (fun lh=>?_);clear hK K
      try simp only [Act.put,sb_,sz_,ss_]
      refine fq 21 (fun K hK=>?_);refine sa_ _ (by rfl) _ _ _ (by rfl) B 74 aS _ 5 40 Tryz.underlying72 hi hz0 hz1 hz2 rfl (by omega) jE C.dV.length (eB C.dV) (by rfl) H3.o.aZ (a_ wc.heap.size 0) 1 1 [I_ k,I_ p,I_ n,I_ C.line,I_ C.iH] (by rfl) (by rfl) (World.news_of_block (cs:=#[I_ k,I_ p,I_ n,I_ C.line,I_ C.iH]) (t:=74) (fr:=(0,0)) (hn_ _ _)) (by simp [Value.oneCell']) (by omega) (by unfold maxLen;omega) (by omega) (by simp;omega) (wc.heap.size+1) (by simp) ?_
      intro g2 fE w2 dw bS jH kV;have kD:=fK H3.o.aZ H3.o.m.fA (by decide) bS;have VB:=cO kD 7 (s_ g2 (C.dV.length+1) fE);refine hK.out _ _ ⟨bM (j:=1) kD (u:=I_ p) (by rw [<-HN.o.2.2.2];rfl),bM (j:=2) kD rfl,bM (j:=3) kD rfl⟩ (fun lq=>?_);have k7:=bP 7 kD rfl;have f7:=bL kD 7;clear hK K
      try simp only [Act.put,sb_]
      refine bW 22 ?_
      refine bW 23 ?_
      refine fq 24 (fun K hK=>?_)
      go_simp
      refine hK.out _ _ ⟨bM (j:=1) VB (u:=I_ p) (by rw [<-HN.o.2.2.2];rfl),bM (j:=2) VB rfl,bM (j:=3) VB rfl⟩ (fun oM=>?_);clear hK K;refine wpAnyH_done (by kernel_rfl) ?_ _;have FIN:=bK (H3.o.token (t:=⟨C.rule,C.pos,C.marked,C.line,C.iH⟩) bS (by rw [HN.o.1,HN.o.2.1,HN.o.2.2.2];exact dw));have FX:=bK (dB (fK H3.o.aZ KX3.o (by decide) bS) xne 7 (s_ g2 (C.dV.length+1) fE));clear lq oM kD VB k7 f7 dw bS H3 KX3;generalize w2.setCell (a_ gr 7) (s_ g2 (C.dV.length+1) fE)=W4 at *;go_wp2
      go_meet
      case rel=>exact⟨_,by rw [hem,if_pos rfl];exact FIN.o,FX.o⟩
   case rest=>
    obtain⟨Ol,hT,hX⟩:=hcut;generalize hT1:(if r.emit=1 then C.dV++[⟨C.rule,C.pos,C.marked,C.line,C.iH⟩] else C.dV)=TT at *;have HT1:=bK hT1;have H4:=bK hT;have KX4:=bK hX;clear hT hX hT1 H2 KX2 x0
    go_wp2_with fail
    go_loopg [7] n (fun gk iv wr=>∃i:Nat,i<=n/\iv=I_ i/\gk=n-i/\TR B w0 gr gs E ve vr vc rest { C with dV:=TT,line:=(qf E.s p i (C.line,C.iH)).1,iH:=(qf E.s p i (C.line,C.iH)).2 } (.slice ao dn cp) Ol wr/\dh wr gx 59 [I_ r.emit,I_ r.act,I_ r.mode])
    case atStart=>exact⟨0,zl_ _,rfl,rfl,H4.o,KX4.o⟩
    case round=>
     clear H4 KX4;obtain⟨i,hi',rfl,rfl,hT,hX⟩:=hrel;have HT:=bK hT;have HX:=bK hX;have hL:=HH.o.line;have hC:=HH.o.iH;have hp:=HN.o.2.2.2;have hB:=I9 E.s p i (C.line,C.iH) hL.1 hC.1;simp only at hB;rw [hp] at hL hC;by_cases hlt:i<n
     focus
      have c0:=bM (j:=0) hT.m.fA rfl;have c1:=bP 1 hT.m.fA (u:=I_ p) (by rw [<-hp];rfl);have c2:=bP 2 hT.m.fA rfl;have c3:=bP 3 hT.m.fA rfl;have f2:=bL hT.m.fA 2;have f3:=bL hT.m.fA 3;have s6:=bP 6 hT.m.scn rfl;have hq1:p+i<E.s.size:=by omega
      have hq2:((p+i:Nat):Int)<E.s.size:=by omega
      have hw:IntKind.i64.wrap ((p:Int)+i)=((p+i:Nat):Int):=by rw [oG _ (by omega) (by omega)];omega
      have x0:=fun w=>dU E.s ((p+i:Nat):Int) (p+i) rfl hq1 w
      have EA:Hid (qf E.s p (i+1) (C.line,C.iH)=if bt E.s (p+i)=10 then ((qf E.s p i (C.line,C.iH)).1+1,1) else ((qf E.s p i (C.line,C.iH)).1,(qf E.s p i (C.line,C.iH)).2+1)):=rfl;clear hT hX hp
     rotate_left
     focus
      have hin:i=n:=by omega
      subst hin;have AD:=bK (Eq.refl (qf E.s p i (C.line,C.iH)));have c1:=bP 1 hT.m.fA (u:=I_ p) (by rw [<-hp];rfl);have f1:=bL hT.m.fA 1;have x1:=bP 1 hX rfl;have x2:=bP 2 hX rfl;have c4:=bP 4 hT.m.fA rfl;have f4:=bL hT.m.fA 4;have c5:=bP 5 hT.m.fA rfl;have f5:=bL hT.m.fA 5;have H6:=bK (HT.o.set 1 (I_ (p+i)) (D:={ C with dV:=TT,line:=(qf E.s p i (C.line,C.iH)).1,iH:=(qf E.s p i (C.line,C.iH)).2,pos:=p+i }) rfl rfl rfl rfl);clear hT hX hp hlt hi';go_upto_region 15 with (fail);have KX6:=bK (dB HX.o xne 1 (I_ ((p:Int)+i)))
      have Uk:Hid (∀jP jE W,TR B w0 gr gs E ve vr vc rest { C with dV:=TT,line:=(qf E.s p i (C.line,C.iH)).1,iH:=(qf E.s p i (C.line,C.iH)).2,pos:=p+i,mode:=fO r C,kK:=lG r C,iW:=lZ r C } jP jE W->TR B w0 gr gs E ve vr vc rest (Pu.take E C 0) jP jE W):=fun jP jE W h=>by
       rw [TK.o];have e:Pu.took E.p E.s C={ C with dV:=TT,line:=(qf E.s p i (C.line,C.iH)).1,iH:=(qf E.s p i (C.line,C.iH)).2,pos:=p+i,mode:=fO r C,kK:=lG r C,iW:=lZ r C,ins:=Pu.aU E.p.ents (fO r C).toNat,c:=0,looked:=0,rule:=0,marked:=0,err:=0 }:=by unfold Pu.took;simp only;rw [<-HT1.o];rw [HN.o.1,HN.o.2.1,HN.o.2.2.2];simp only [tn_,HR.o]
       rw [e];exact h.MN (by unfold lL;simp only [HE.o]) rfl rfl rfl
      have DT:Hid (C.iW.toNat=dn):=by show _=_;have:=HN.o.2.2.1;omega
      have stl:=HH.o.kK.1;clear c1 f1 x1 x2 c4 f4 c5 f5 HT HX;generalize wr.setCell (a_ gr 1) (I_ ((p:Int)+i))=W6 at *
     rotate_left
     all_goals
      generalize (qf E.s p i (C.line,C.iH)).1=L at *;generalize (qf E.s p i (C.line,C.iH)).2=K at *
     .generalize p+i=q at *;generalize bt E.s q=y at *;have hlt1:(i:Int)<n:=by omega
      by_cases hy:y=10
      .subst hy
       go_wp2_with fail
       go_quiet (fail);have H5:=bK (((HT.o.drewN nq).set 2 (I_ (L+1)) (D:={ C with dV:=TT,line:=L+1,iH:=K }) rfl rfl rfl rfl).set 3 (I_ 1) (D:={ C with dV:=TT,line:=L+1,iH:=1 }) rfl rfl rfl rfl);have KX5:=bK (dB (dB (wL HX.o nq) xne 2 (I_ (L+1))) xne 3 (I_ 1));go_wp2;go_roundg (n-(i+1))
       case measure=>omega
       case rel=>exact⟨i+1,by omega,by go_num,rfl,by rw [EA.o];exact H5.o,KX5.o⟩
      .have dy:(y == 10)=false:=by simpa using hy
       go_wp2_with fail
       go_quiet (fail);have H5:=bK ((HT.o.drewN nq).set 3 (I_ (K+1)) (D:={ C with dV:=TT,line:=L,iH:=K+1 }) rfl rfl rfl rfl);have KX5:=bK (dB (wL HX.o nq) xne 3 (I_ (K+1)));go_wp2;go_roundg (n-(i+1))
       case measure=>omega
       case rel=>exact⟨i+1,by omega,by go_num,rfl,by rw [EA.o,if_neg hy];exact H5.o,KX5.o⟩
     .have x1:=bP 1 KX6.o rfl;have x2:=bP 2 KX6.o rfl;have c4:=bP 4 H6.o.m.fA rfl;have f4:=bL H6.o.m.fA 4;have c5:=bP 5 H6.o.m.fA rfl;have f5:=bL H6.o.m.fA 5;by_cases a1:r.act=1
      .have NM:Hid (fO r C=r.mode/\lG r C=C.kK/\lZ r C=C.iW):=by unfold fO lG lZ;exact⟨by rw [if_pos (.inl a1)],by rw [if_neg (by omega)],by rw [if_neg (by omega),if_neg (by omega)]⟩
       rw [a1] at x1;clear a1;go_wp2
       go_end0
       exact⟨rfl,_,_,Uk.o _ _ _ (by rw [NM.o.1,NM.o.2.1,NM.o.2.2];exact H6.o.set 4 (I_ r.mode) rfl rfl rfl rfl)⟩
      have d1:(r.act == 1)=false:=by simpa using a1
      by_cases a2:r.act=2
      .have NM:Hid (fO r C=r.mode/\lG r C=C.kK.set dn C.mode/\lZ r C=C.iW+1):=by unfold fO lG lZ;exact⟨by rw [if_pos (.inr a2)],by rw [if_pos a2,DT.o],by rw [if_pos a2]⟩
       have hdl:=T1.o a2;have hde:=GD.o.depth;have PU:Hid (bY ((C.kK.set dn C.mode).take (dn+1))=bY (C.kK.take dn)++[I_ C.mode]):=by show _=_;rw [take_set _ _ _ (by omega)];simp [bY]
       rw [a2] at x1;clear a1 d1 a2;have gl2:=bO H6.o.m.fA;have hsz:=H6.o.sz;have ne1:gr≠W6.heap.size:=by omega
       have yZ:W6.heap.size≠gr:=by omega
       go_wp2_with fail
       have S1:W6.drew.cell? (a_ gr 4)=some (I_ C.mode):=c4;refine wd_ (S:=fun w'=>w'.cell? (a_ gr 4)=some (I_ C.mode)) (by kernel_rfl) S1 (fun dF=>?_);refine bW 0 ?_
       refine bW 1 ?_
       refine bW 2 ?_
       refine bW 3 ?_
       refine bW 5 ?_
       refine bW 6 ?_
       refine bW 7 ?_
       refine bW 8 ?_
       refine wpAnyH_ready (rs:=[4,9]) (by kernel_rfl) (by simp) ?_
       have H7:=bK (H6.o.alloc (c_ #[I_ C.mode] 3)).drew;have KX7:Hid (dh (W6.alloc (c_ #[I_ C.mode] 3)).drew gx 59 [I_ r.emit,I_ r.act,I_ r.mode]):=dx KX6.o _;have ST:Hid ((W6.alloc (c_ #[I_ C.mode] 3)).drew.ownsRow B 3 1 (.slice ao dn cp) dn (bY (C.kK.take dn))):=by have z:=H7.o.st;simp only at z;rw [DT.o] at z;exact z
       have S2:(W6.alloc (c_ #[I_ C.mode] 3)).drew.cell? (a_ gr 4)=some (I_ C.mode):=bM (j:=4) H7.o.m.fA rfl;refine AllReadyH.cons rfl (fun K hK=>?_) (AllReadyH.cons rfl (fun K hK=>?_) AllReadyH.nil)
       focus
        go_simp
        refine hK.out _ _ dF (fun fV=>?_)
       rotate_left
       focus
        have c5':=bM (j:=5) H7.o.m.fA rfl
        go_simp
        refine hK.out _ _ S2 (fun fV=>?_)
       rotate_left
       all_goals
        clear hK K
        try simp only [Act.put,sb_,sz_,ss_]
       focus refine fq 9 (fun K hK=>?_)
       rotate_left
       focus refine fq 4 (fun K hK=>?_)
       all_goals
        go_simp
        refine hK.out _ _ S2 (fun lh=>?_);clear hK K
        try simp only [Act.put,sb_,sz_,ss_]
        refine fq 10 (fun K hK=>?_);refine sa_ _ (by rfl) _ _ _ (by rfl) B 3 i3 _ 1 8 Tryz.underlying31 hi3 h30 h31 h32 rfl (by omega) (.slice ao dn cp) dn (bY (C.kK.take dn)) (by rfl) ST.o (a_ W6.heap.size 0) 1 1 [I_ C.mode] (by rfl) (by rfl) (World.news_of_block (cs:=#[I_ C.mode]) (t:=3) (fr:=(0,0)) (hn_ _ _)) (by simp [Value.oneCell']) (by omega) (by unfold maxLen;omega) (by omega) (by simp;omega) (W6.heap.size+1) (by simp) ?_
        intro g2 fE w2 dw bS jH kV;have kD:=fK ST.o H7.o.m.fA (by decide) bS;have VB:=cO kD 5 (s_ g2 (dn+1) fE);refine hK.out _ _ (bM (j:=4) kD rfl) (fun lq=>?_);have k5:=bP 5 kD rfl;have Ps:=bL kD 5;clear hK K
        try simp only [Act.put,sb_]
        refine bW 11 ?_
        refine bW 12 ?_
        refine fq 13 (fun K hK=>?_)
        go_simp
        refine hK.out _ _ (bM (j:=4) VB rfl) (fun oM=>?_);clear hK K;refine wpAnyH_done (by kernel_rfl) ?_ _;have H8:=bK (H7.o.push (l:=C.kK.set dn C.mode) (d:=C.iW+1) bS rfl HH.o.iW.1 (by rw [DT.o,PU.o];exact dw));have KX8:=bK (dB (fK ST.o KX7.o (by decide) bS) xne 5 (s_ g2 (dn+1) fE));clear lq oM kD VB k5 Ps dw bS H7 KX7 ST;generalize w2.setCell (a_ gr 5) (s_ g2 (dn+1) fE)=W8 at *;have x2:=bP 2 KX8.o rfl;have c4:=bP 4 H8.o.m.fA rfl;have f4:=bL H8.o.m.fA 4;go_wp2
        go_end0
        exact⟨rfl,_,_,Uk.o _ _ _ (by rw [NM.o.1,NM.o.2.1,NM.o.2.2];exact H8.o.set 4 (I_ r.mode) rfl rfl rfl rfl)⟩
      have d2:(r.act == 2)=false:=by simpa using a2
      by_cases a3:r.act=3
      .have hd0:=T2.o a3
       obtain⟨d',rfl⟩:∃d',dn=d'+1:=⟨dn-1,by omega⟩
       have NM:Hid (fO r C=Pu.aU C.kK d'/\lG r C=C.kK/\lZ r C=C.iW-1):=by unfold fO lG lZ;have:=HN.o.2.2.1;exact⟨by rw [if_neg (by omega),if_pos a3,show (C.iW-1).toNat=d' by omega],by rw [if_neg (by omega)],by rw [if_neg (by omega),if_pos a3]⟩
       have ST:Hid (W6.ownsRow B 3 1 (.slice ao (d'+1) cp) (d'+1) (bY (C.kK.take (d'+1)))):=by have z:=H6.o.st;simp only at z;rw [DT.o] at z;exact z
       obtain⟨gk,ck,Km,-,-⟩:=dJ ST.o (by omega);cases Km
       have q5:W6.cell? (a_ gk (d'))=some (I_ (Pu.aU C.kK d')):=bT ST.o (by
        rw [bY,gm_,List.getElem?_take_of_lt (by omega),gg_ (by omega)]
        simp [Pu.aU,gd_,gg_ (show d'<C.kK.length by omega)])
       rw [a3] at x1;clear a1 d1 a2 d2 a3;have H8:=bK ((H6.o.set 4 (I_ (Pu.aU C.kK d')) (D:={ C with dV:=TT,line:=L,iH:=K,pos:=p+i,mode:=Pu.aU C.kK d' }) rfl rfl rfl rfl).pop (n:=d'+1) (d:=C.iW-1) DT.o (by omega) (by show _<=C.kK.length;omega) (by have:=HN.o.2.2.1;omega))
       have gne:gk≠gr:=fun e=>by
        have b1:=H6.o.m.fA;rcases ST.o.2 with ⟨h1,_⟩ | ⟨g',cap',cur,h1,_,h4,_⟩
        .cases h1
        .cases h1
         unfold dh at b1;rw [e,b1] at h4;simp at h4
       have gne':gr≠gk:=fun e=>gne e.symm
       clear H6 KX6 ST;go_wp2
       go_end0
       exact⟨rfl,_,_,Uk.o _ _ _ (by rw [NM.o.1,NM.o.2.1,NM.o.2.2];exact H8.o)⟩
      have d3:(r.act == 3)=false:=by simpa using a3
      have NM:Hid (fO r C=C.mode/\lG r C=C.kK/\lZ r C=C.iW):=by unfold fO lG lZ;exact⟨by rw [if_neg (by omega),if_neg a3],by rw [if_neg a2],by rw [if_neg a2,if_neg a3]⟩
      go_wp2
      go_end0
      exact⟨rfl,_,_,Uk.o _ _ _ (by rw [NM.o.1,NM.o.2.1,NM.o.2.2];exact H6.o)⟩
end T
end Go.Proofs.YtmccnmgaoppogaaGreat
