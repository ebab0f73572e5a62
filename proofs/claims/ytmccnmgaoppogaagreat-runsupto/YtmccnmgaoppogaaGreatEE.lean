import Derived.Test.YtmccnmgaoppogaaGreatED
namespace Go.Proofs.YtmccnmgaoppogaaGreat
open Pu
set_option linter.all false
set_option maxRecDepth 100000
set_option maxHeartbeats 8000000
open Go.RowKit
variable {B g gR i:Nat} {W:W_} {s:Y_} {nt:aH} {nf:aG} {d:Bool} {ps:List Pu.aJ}
theorem BM:∀(vs:List V_) (o:Nat) (W:W_),W.grownBy (W.setCells g o vs) (some g):=by
 intro vs
 induction vs with
 | nil=>intro o W;exact World.grownBy.refl _ _
 | cons v vs ih=>intro o W;exact (gs_ W g o v).trans (ih (o+1) _)
structure CT (B g:Nat) (s:Y_) (j:Nat) (ps:List Pu.aJ) (d:Bool) (vp:V_) (qs:List (Pu.aJ × V_)) (w:W_) (gR gT:Nat) (T:Nat->Bool) (W:W_):Prop where
 rd:Rd B g s j ps d vp qs W
 rk:Rk B w W
 r:dh W gR 83 [.bool false,n_,n_]
 t:dh W gT 233 (cK T)
 ap:w.heap.size<=gR/\w.heap.size<=gT/\B<=w.heap.size
section
variable {B g j j':Nat} {s:Y_} {ps:List Pu.aJ} {d d':Bool} {vp:V_} {qs:List (Pu.aJ × V_)} {w:W_} {gR gT:Nat} {T:Nat->Bool} {W W':W_}
theorem CT.below (h:CT B g s j ps d vp qs w gR gT T W) (hb:B_ W W'):CT B g s j ps d vp qs w gR gT T W':=
 ⟨h.rd.below hb,h.rk.trans (.below h.rd.lt hb),bN h.r hb (bO h.r),bN h.t hb (bO h.t),h.ap⟩
theorem CT.eP (h:CT B g s j ps d vp qs w gR gT T W) (hg:W.grownBy W' (some g)) (hr:Rb W' g s j' vp d'):CT B g s j' ps d' vp qs w gR gT T W':=
 ⟨h.rd.eP hg hr,h.rk.trans (h.rd.rk hg),(h.rd.rk hg).fA h.r (by decide) (by decide),(h.rd.rk hg).fA h.t (by decide) (by decide),h.ap⟩
theorem CT.bits (h:CT B g s j ps d vp qs w gR gT T W) (U:Nat->Bool):CT B g s j ps d vp qs w gR gT U (W.setCells gT 0 (cK U)):=by have hg:=BM (g:=gT) (cK U) 0 W;exact⟨h.rd.yV h.t (by decide) (by decide) (by decide) hg,h.rk.fresh hg h.ap.2.1 h.ap.2.2,bQ h.r hg (fun e=>dD h.r h.t (by decide) (oi_ e)),sQ h.t U,h.ap⟩
end
theorem Pe (U:Nat->Bool):(Tryz.prog.info? 233).map (·.size)=some (cK U).toArray.size:=by simp only [List.size_toArray,bZ];exact jZ
theorem vC {T:Nat->Bool} (h:dh W g 233 (cK T)) (U:Nat->Bool):(storeCells (a_ g 0) (cK U)).run Tryz.prog W=.ok () (W.setCells g 0 (cK U)):=by have ht:=mH h;rw [bZ] at ht;have:=run_storeCells_cells (P:=Tryz.prog) g 0 (cK U) 0 W (fun j hj=>by rw [bZ] at hj;simpa using (ht j hj).1) (fun j hj=>by rw [bZ] at hj;simpa using (ht j hj).2) (fun v hv=>qj U v hv);exact this
def RH (B g:Nat) (s:Y_) (j0:Nat) (neg:Bool) (d:Bool) (ps:List Pu.aJ) (w:W_) (e:Ending) (w':W_):Prop:=
 (∃k T D v vp qs,aj s j0 Pu.dP false k T D/\e=.returned (.tuple #[v,.bool true])/\Pm w' v (Pu.vQ (if neg then mF T else T) ps).1/\Rk B w w'/\Rd B g s k (Pu.vQ (if neg then mF T else T) ps).2 (d || D) vp qs w')\/
 (∃k d' v vp qs,Rt s j0 k/\e=.returned (.tuple #[v,.bool false])/\Pm w' v ptZ/\Rk B w w'/\Rd B g s k ps d' vp qs w')
theorem Uu (B g i:Nat) (s:Y_) (ps:List Pu.aJ) (d:Bool) (vp:V_) (qs:List (Pu.aJ × V_)) (w:W_) (neg:Bool) (hneg:neg=decide (Pu.dG s i=94)) (h:Rd B g s i ps d vp qs w) (hl:ps.length<=i) (hi:i<=s.size) (hs:s.size<=400) :
  C_ 168 #[p_ g] w (RH B g s (if Pu.dG s i=94 then i+1 else i) neg d ps w):=by
 have BL:=h.lt
 obtain⟨NB,hNB⟩:∃NB,NB=Pu.dP:=⟨_,rfl⟩
 have zv:=uP;rw [<-hNB] at zv;have HNB:=bK hNB;clear hNB
 have j0l:(if Pu.dG s i=94 then i+1 else i)<=s.size:=by
  split
  .rename_i h94
   exact Pu.fB (s:=s) (i:=i) (by rw [h94];decide)
  .exact hi
 have C0:Hid (CT B g s i ps d vp qs w w.heap.size (w.heap.size+1) NB ((w.alloc (c_ #[.bool false,n_,n_] 83)).alloc (c_ (cK NB).toArray 233))):=by have hb:=((Br_ w.heap.size w).alloc di (c_ #[.bool false,n_,n_] 83)).alloc (by simp) (c_ (cK NB).toArray 233);have h2:=hn_ (w.alloc (c_ #[.bool false,n_,n_] 83)) (c_ (cK NB).toArray 233);rw [wa_] at h2;exact⟨h.below hb,.below BL hb,dx (hn_ w _) _,h2,di,by omega,BL⟩
 have TK:=bK (fun w1 (h1:Rb w1 g s i vp d)=>oq g i s vp d 94 w1 h1 (by omega));rw [<-hneg] at TK;generalize (if Pu.dG s i=94 then i+1 else i)=j0 at *;clear h hneg;go_enter Tryz.func168,Tryz.ntmps168;have hsc:(storeCells (a_ (w.heap.size+1) 0) (cK NB)).run Tryz.prog ((w.alloc (c_ #[.bool false,n_,n_] 83)).alloc (c_ (cK NB).toArray 233))=.ok () ((w.alloc (c_ #[.bool false,n_,n_] 83)).alloc (c_ (cK NB).toArray 233)):=by have:=run_storeCells_new (P:=Tryz.prog) (w.alloc (c_ #[.bool false,n_,n_] 83)) 233 (cK NB).toArray (cK NB).toArray (Pe NB) rfl (oc_ (qj NB));rw [wa_] at this;exact this
 go_wp2_with fail
 clear zv hsc;have C1:=C0;clear C0;generalize ((w.alloc (c_ #[.bool false,n_,n_] 83)).alloc (c_ (cK NB).toArray 233))=W1 at *;generalize hgR:w.heap.size=gR at *;generalize hgT:gR+1=gT at *;refine (TK.o W1 C1.o.rd.rb).mono ?_
 clear TK;rintro e w2 ⟨rfl,hg2,hr2⟩;have C2:=bK (C1.o.eP hg2 hr2);clear hg2 hr2 C1
 go_wp2_with fail
 go_loopg [8] (s.size-j0) (fun gk _ok wx=>∃j T D,j<=s.size/\gk=s.size-j/\CT B g s j ps (d || D) vp qs w gR gT T wx/\(∀k T' D',aj s j T D k T' D'->aj s j0 Pu.dP false k T' D')/\(∀k,Rt s j k->Rt s j0 k))
 case atStart=>exact⟨_,NB,false,j0l,rfl,by rw [Bool.or_false];exact C2.o,fun k T' D' hc=>by rw [<-HNB.o];exact hc,fun k hc=>hc⟩
 case round=>
  clear C2;obtain⟨j,T,D,jl,rfl,hC,c1,c2⟩:=hrel;have IT:=bK (Y9 g j s vp (d || D) wr hC.rd.rb jl (by omega));have HC:=bK hC;have CC:=bK c1;have CF:=bK c2;clear hC c1 c2
  go_wp2_with fail
  refine IT.o.mono ?_
  clear IT;rintro e w3 (⟨j2,lo,hi2,r,hit,rfl,hg3,hr3⟩ | ⟨j2,x,y,hit,rfl,hg3,hr3⟩)
  .have C3:=bK (HC.o.eP hg3 hr3);have HI:=bK hit;have j2l:=hit.le;have jlt:=hit.lt;clear hg3 hr3 HC hit
   go_wp2_with (refine wl_ rfl 233 (.tmp 4) rfl gT 0 rfl (cK T) _ (dZ C3.o.t) Tryz.underlying233 rfl (by rw [bZ];exact jZ) ?_)
   refine (Oo T lo hi2 w3).mono ?_
   rintro e w4 ⟨rfl,hb4⟩;have C4:=bK (C3.o.below hb4);clear hb4 C3;have hsc:=vC C4.o.t (Pu.wid T lo hi2)
   go_wp2_with fail
   clear hsc;have C5:=bK (C4.o.bits (Pu.wid T lo hi2));clear C4;generalize w4.setCells gT 0 (cK (Pu.wid T lo hi2))=W5 at *;have TK:=bK (oq g j2 s vp ((d || D) || decide (hi2<lo)) 93 W5 C5.o.rd.rb (by omega));by_cases Kl:Pu.dG s j2=93
   focus rw [if_pos Kl,dt_ Kl] at TK
   rotate_left
   focus
    rw [if_neg Kl,dn_ Kl] at TK;have C7:Hid (∀k T' D',aj s j2 (Pu.wid T lo hi2) (D || decide (hi2<lo)) k T' D'->aj s j0 Pu.dP false k T' D'):=fun k T' D' hc=>CC.o _ _ _ (.more HI.o Kl hc)
    have F7:Hid (∀k,Rt s j2 k->Rt s j0 k):=fun k hc=>CF.o _ (.more HI.o Kl hc)
   rotate_left
   all_goals
    refine TK.o.mono ?_
    clear TK;rintro e w6 ⟨rfl,rM,yD⟩;have C6:=bK (C5.o.eP rM yD)
   focus have CL:Hid (aj s j0 Pu.dP false (j2+1) (Pu.wid T lo hi2) (D || decide (hi2<lo))):=CC.o _ _ _ (.done HI.o Kl)
   rotate_left
   rotate_left
   all_goals
    have DD:Hid (((d || D) || decide (hi2<lo))=(d || (D || decide (hi2<lo)))):=Bool.or_assoc _ _ _;clear rM yD C5 HI Kl
   .cases neg with
    | false=>?_
    | true=>?_
    all_goals
     go_wp2_with (refine wl_ rfl 233 (.tmp 4) rfl gT 0 rfl (cK (Pu.wid T lo hi2)) _ (dZ C6.o.t) Tryz.underlying233 rfl (by rw [bZ];exact jZ) ?_)
    focus
     refine (zL B g (j2+1) s ps _ vp qs (Pu.wid T lo hi2) w6 C6.o.rd (by omega)).mono ?_
     intro e w7 hq;obtain⟨v7,vp7,qs7,rfl,pm7,k7,r7⟩:=hq.pm;have X7:=bK (k7.fA C6.o.r (by decide) (by decide))
    rotate_left
    focus
     refine (Dy (Pu.wid T lo hi2) w6).mono ?_
     rintro e w61 ⟨rfl,agQ⟩;have C61:=bK (C6.o.below agQ);clear agQ C6;have hsc:=vC C61.o.t (mF (Pu.wid T lo hi2));go_upto_region 10 with (fail);clear hsc;have C62:=bK (C61.o.bits (mF (Pu.wid T lo hi2)));clear C61;generalize w61.setCells gT 0 (cK (mF (Pu.wid T lo hi2)))=W62 at *
     go_wp2_with (refine wl_ rfl 233 (.tmp 4) rfl gT 0 rfl (cK (mF (Pu.wid T lo hi2))) _ (dZ C62.o.t) Tryz.underlying233 rfl (by rw [bZ];exact jZ) ?_)
     refine (zL B g (j2+1) s ps _ vp qs (mF (Pu.wid T lo hi2)) W62 C62.o.rd (by omega)).mono ?_
     intro e w7 hq;obtain⟨v7,vp7,qs7,rfl,pm7,k7,r7⟩:=hq.pm;have X7:=bK (k7.fA C62.o.r (by decide) (by decide))
    rotate_left
    all_goals
     have z0:=bP 0 X7.o rfl;have z1:=bP 1 X7.o rfl;have z2:=bP 2 X7.o rfl;have f0:=bL X7.o 0;have f1:=bL X7.o 1;have f2:=bL X7.o 2
    focus
     obtain⟨af,nf,cf,al,nl,cl,rfl,ld,Co,Ct,Cq⟩:=Jk (C6.o.rk.trans k7) r7 X7.o C6.o.ap.1 C6.o.ap.2.2 pm7;have PF1:=bK Co;have RF:=bK Cq;have KF:=bK Ct;clear hq pm7 k7 r7 C6 Co Ct Cq;go_wp2;refine br_ (v:=.tuple #[.agg #[.bool (Pu.vQ (Pu.wid T lo hi2) ps).1.empty,.slice af nf cf,.slice al nl cl],.bool true]) (by simp [results,Tryz.results168,asAddr,Result.andThen,ld]) rfl ?_
    rotate_left
    focus
     obtain⟨af,nf,cf,al,nl,cl,rfl,ld,Co,Ct,Cq⟩:=Jk (C62.o.rk.trans k7) r7 X7.o C62.o.ap.1 C62.o.ap.2.2 pm7;have PF1:=bK Co;have RF:=bK Cq;have KF:=bK Ct;clear hq pm7 k7 r7 C62 Co Ct Cq;go_wp2;refine br_ (v:=.tuple #[.agg #[.bool (Pu.vQ (mF (Pu.wid T lo hi2)) ps).1.empty,.slice af nf cf,.slice al nl cl],.bool true]) (by simp [results,Tryz.results168,asAddr,Result.andThen,ld]) rfl ?_
    all_goals
     exact .inl ⟨j2+1,_,_,_,_,_,CL.o,rfl,PF1.o,KF.o,by rw [<-DD.o];exact RF.o⟩
   .go_wp2;go_roundg (s.size-j2)
    case measure=>omega
    case rel=>exact⟨j2,Pu.wid T lo hi2,D || decide (hi2<lo),j2l,rfl,by rw [<-DD.o];exact C6.o,C7.o,F7.o⟩
  .have C3:=bK (HC.o.eP hg3 hr3);have FF:=bK (CF.o _ (.here hit));clear hg3 hr3 HC hit;have z0:=bP 0 C3.o.r rfl;have z1:=bP 1 C3.o.r rfl;have z2:=bP 2 C3.o.r rfl;have f0:=bL C3.o.r 0;have f1:=bL C3.o.r 1;have f2:=bL C3.o.r 2;obtain⟨af,nf,cf,al,nl,cl,hv,ld,Co,Ct,Cq⟩:=Jk C3.o.rk C3.o.rd C3.o.r C3.o.ap.1 C3.o.ap.2.2 (JH w3);cases hv;simp only [show ptZ.empty=false from rfl] at ld Co Ct Cq;have PF1:=bK Co;have RF:=bK Cq;have KF:=bK Ct;clear Co Ct Cq C3;go_wp2;refine br_ (v:=.tuple #[.agg #[.bool false,n_,n_],.bool false]) (by simp [results,Tryz.results168,asAddr,Result.andThen,ld]) rfl ?_
   exact .inr ⟨_,_,_,_,_,FF.o,rfl,PF1.o,KF.o,RF.o⟩
def Dp (f:Nat) (nt:aH) (nf:aG) (s:Y_) (i:Nat):Prop:=
 ∀(B g:Nat) (ps:List Pu.aJ) (d:Bool) (vp:V_) (qs:List (Pu.aJ × V_)) (w:W_),Rd B g s i ps d vp qs w->iU ps->ps.length<=i->C_ f #[p_ g] w (uj B g s i nt nf d ps w)
abbrev jO (W:W_) (g:Nat) (a b c:V_):W_:=((W.setCell (a_ g 0) a).setCell (a_ g 1) b).setCell (a_ g 2) c
theorem uj.fin {w W0 w1:W_} {e:Ending} {x y z:V_}
  (h:uj B g s i nt nf d ps W0 e w1) (hx:dh W0 gR 83 [x,y,z]) (hr:w.heap.size<=gR) (K0:Rk B w W0) (BL:B<=w.heap.size) :
  ∃c af mf cf al nl cl ok,e=.returned (.tuple #[.agg #[.bool c,.slice af mf cf,.slice al nl cl],.bool ok])/\dh w1 gR 83 [x,y,z]/\
   (loadVar 83 (a_ gR 0)).run Tryz.prog (jO w1 gR (.bool c) (.slice af mf cf) (.slice al nl cl))=.ok (.agg #[.bool c,.slice af mf cf,.slice al nl cl]) (jO w1 gR (.bool c) (.slice af mf cf) (.slice al nl cl))/\
   uj B g s i nt nf d ps w (.returned (.tuple #[.agg #[.bool c,.slice af mf cf,.slice al nl cl],.bool ok])) (jO w1 gR (.bool c) (.slice af mf cf) (.slice al nl cl)):=by
 rcases h with ⟨j,re,D,v,vp,qs,hP,rfl,pm,rk,rd⟩ | ⟨k,a,ps',d',v,vp,qs,hF,rfl,pm,oa,ok,lk,rk,rd⟩
 all_goals
  have hb:=rk.fA hx (by decide) (by decide);obtain⟨af,mf,cf,al,nl,cl,rfl,ld,Co,Ct,Cq⟩:=Jk (K0.trans rk) rd hb hr BL pm
 .exact⟨_,af,mf,cf,al,nl,cl,true,rfl,hb,ld,.inl ⟨j,re,D,_,vp,qs,hP,rfl,Co,Ct,Cq⟩⟩
 .exact⟨_,af,mf,cf,al,nl,cl,false,rfl,hb,ld,.inr ⟨k,a,ps',d',_,vp,qs,hF,rfl,Co,oa,ok,lk,Ct,Cq⟩⟩
theorem uj.yes {j:Nat} {D:Bool} {re:aM} {vp:V_} {qs:List (Pu.aJ × V_)} {w:W_} {x y z:V_} {c:Bool} {af al:Option Addr} {mf cf nl cl:Nat}
  (hP:Pu.P s nt i j re D) (rd:Rd B g s j (Pu.part re ps).2 (d || D) vp qs W) (pm:Pm W (.agg #[.bool c,.slice af mf cf,.slice al nl cl]) (Pu.part re ps).1) (hx:dh W gR 83 [x,y,z]) (hr:w.heap.size<=gR) (K0:Rk B w W) (BL:B<=w.heap.size) :
  (loadVar 83 (a_ gR 0)).run Tryz.prog (jO W gR (.bool c) (.slice af mf cf) (.slice al nl cl))=.ok (.agg #[.bool c,.slice af mf cf,.slice al nl cl]) (jO W gR (.bool c) (.slice af mf cf) (.slice al nl cl))/\
   uj B g s i nt nf d ps w (.returned (.tuple #[.agg #[.bool c,.slice af mf cf,.slice al nl cl],.bool true])) (jO W gR (.bool c) (.slice af mf cf) (.slice al nl cl)):=by
 obtain⟨af,mf,cf,al,nl,cl,hv,ld,Co,Ct,Cq⟩:=Jk K0 rd hx hr BL pm;cases hv
 exact⟨ld,.inl ⟨j,re,D,_,vp,qs,hP,rfl,Co,Ct,Cq⟩⟩
theorem uj.no {k:Nat} {d':Bool} {ps':List Pu.aJ} {vp:V_} {qs:List (Pu.aJ × V_)} {w:W_} {x y z:V_}
  (hF:Pu.aI s nf i k) (rd:Rd B g s k ps' d' vp qs W) (ok:iU ps') (lk:ps.length<=ps'.length/\ps'.length<=k) (hx:dh W gR 83 [x,y,z]) (hr:w.heap.size<=gR) (K0:Rk B w W) (BL:B<=w.heap.size) :
  (loadVar 83 (a_ gR 0)).run Tryz.prog (jO W gR (.bool false) n_ n_)=.ok (.agg #[.bool false,n_,n_]) (jO W gR (.bool false) n_ n_)/\
   uj B g s i nt nf d ps w (.returned (.tuple #[.agg #[.bool false,n_,n_],.bool false])) (jO W gR (.bool false) n_ n_):=by
 obtain⟨af,mf,cf,al,nl,cl,hv,ld,Co,Ct,Cq⟩:=Jk K0 rd hx hr BL (JH W);cases hv
 exact⟨ld,.inr ⟨k,ptZ,ps',d',_,vp,qs,hF,rfl,Co,JI _,ok,lk,Ct,Cq⟩⟩
theorem U0 (B g i:Nat) (s:Y_) (ps:List Pu.aJ) (d:Bool) (vp:V_) (qs:List (Pu.aJ × V_)) (w:W_) (PA:Dp 140 .pa .pa s (i+1)) (Px:Pu.dG s i=40) (h:Rd B g s (i+1) ps d vp qs w) (hok:iU ps) (hl:ps.length<=i) (hs:s.size<=400) :
  C_ 167 #[p_ g] w (uj B g s i .atom .atom d ps w):=by
 have BL:=h.lt;have i1:i+1<=s.size:=Pu.fB (s:=s) (i:=i) (by rw [Px];decide);have XR:Hid (dh (w.alloc (c_ #[.bool false,n_,n_] 83)) w.heap.size 83 [.bool false,n_,n_]):=hn_ _ _;have H0:=bK (h.below ((Br_ w.heap.size w).alloc di (c_ #[.bool false,n_,n_] 83)));have K0:Hid (Rk B w (w.alloc (c_ #[.bool false,n_,n_] 83))):=.alloc BL _;have OK:=bK hok;have H40:=bK Px;clear h hok Px;go_enter Tryz.func167,Tryz.ntmps167
 go_wp2_with fail
 generalize w.alloc (c_ #[.bool false,n_,n_] 83)=W0 at *;refine (PA B g ps d vp qs W0 H0.o OK.o (by omega)).mono ?_
 rintro e w1 (⟨j,re,D,v,OG,qs1,hP,rfl,pm,rk,rd⟩ | ⟨k,a,ps',d',v,OG,qs1,hF,rfl,pm,oa,ok',lk,rk,rd⟩)
 focus
  obtain⟨af,mf,cf,al,nl,cl,rfl,n1,n2⟩:=pm;have jl:j<=s.size:=hP.le i1 2 (.inl ⟨trivial,.inl rfl⟩);have lv:=hP.leaves;simp only [aH.lv] at lv;have Kr:=bK (zN re ps OK.o);have yK:=gL re ps;have hb:=(Br_ w1.heap.size w1).alloc di (c_ #[.bool (Pu.part re ps).1.empty,.slice af mf cf,.slice al nl cl] 83)
 rotate_left
 focus
  obtain⟨af,mf,cf,al,nl,cl,rfl,n1,n2⟩:=pm;have PP:Hid (Pu.aI s .atom i k):=.Me H40.o hF;have hb:=(Br_ w1.heap.size w1).alloc di (c_ #[.bool a.empty,.slice af mf cf,.slice al nl cl] 83)
 rotate_left
 all_goals
  have R2:=bK (rd.below hb);have K2:=bK ((K0.o.trans rk).trans (.below rd.lt hb));have X2:=bK (bN (rk.fA XR.o (by decide) (by decide)) hb (bO (rk.fA XR.o (by decide) (by decide))))
 focus
  have PM2:Hid (Pm (w1.alloc (c_ #[.bool (Pu.part re ps).1.empty,.slice af mf cf,.slice al nl cl] 83)) (.agg #[.bool (Pu.part re ps).1.empty,.slice af mf cf,.slice al nl cl]) (Pu.part re ps).1):=⟨_,_,_,_,_,_,rfl,n1.below hb,n2.below hb⟩;have XP2:Hid (dh (w1.alloc (c_ #[.bool (Pu.part re ps).1.empty,.slice af mf cf,.slice al nl cl] 83)) w1.heap.size 83 [.bool (Pu.part re ps).1.empty,.slice af mf cf,.slice al nl cl]):=hn_ _ _;have HP:=bK hP;clear rk rd n1 n2 H0 K0 XR hb hP;generalize (Pu.part re ps).1.empty=em at *
  go_wp2_with fail
 rotate_left
 focus
  clear rk rd n1 n2 H0 K0 XR hb hF;generalize a.empty=em at *;obtain⟨ld,FIN⟩:=uj.no (nt:=.atom) (d:=d) (ps:=ps) PP.o R2.o ok' lk X2.o di K2.o BL;have FIN:=bK FIN;have z0:=bP 0 X2.o rfl;have z1:=bP 1 X2.o rfl;have z2:=bP 2 X2.o rfl;have f0:=bL X2.o 0;have f1:=bL X2.o 1;have f2:=bL X2.o 2;go_upto_region 2 with (fail)
 rotate_left
 all_goals
  generalize w1.alloc (c_ #[.bool em,.slice af mf cf,.slice al nl cl] 83)=W2 at *
 .have TK:=bK (oq g j s OG (d || D) 41 W2 R2.o.rb (by omega));by_cases h41:Pu.dG s j=41
  focus
   rw [if_pos h41,dt_ h41] at TK;have PP:Hid (Pu.P s .atom i (j+1) re D):=.Me H40.o HP.o h41
  rotate_left
  focus
   rw [if_neg h41,dn_ h41] at TK;have PP:Hid (Pu.aI s .atom i j):=.agL H40.o HP.o h41
  rotate_left
  all_goals
   clear h41;refine TK.o.mono ?_
   clear TK;rintro e w3 ⟨rfl,hg3,hr3⟩;have rk3:=R2.o.rk hg3;have R3:=bK (R2.o.eP hg3 hr3);have K3:=bK (K2.o.trans rk3);have X3:=bK (rk3.fA X2.o (by decide) (by decide))
  focus
   have XP3:=bK (rk3.fA XP2.o (by decide) (by decide));have PM3:=bK (PM2.o.rk rk3);clear hg3 hr3 rk3 R2 K2 X2 XP2 PM2;obtain⟨ld,FIN⟩:=uj.yes (nf:=.atom) PP.o R3.o PM3.o X3.o di K3.o BL
  rotate_left
  focus
   clear hg3 hr3 rk3 R2 K2 X2 XP2 PM2;obtain⟨ld,FIN⟩:=uj.no (nt:=.atom) (d:=d) (ps:=ps) PP.o R3.o Kr.o.2 ⟨by omega,by omega⟩ X3.o di K3.o BL
  rotate_left
  all_goals
   have FIN:=bK FIN;have z0:=bP 0 X3.o rfl;have z1:=bP 1 X3.o rfl;have z2:=bP 2 X3.o rfl;have f0:=bL X3.o 0;have f1:=bL X3.o 1;have f2:=bL X3.o 2
  focus
   have p0:=bP 0 XP3.o rfl;have p1:=bP 1 XP3.o rfl;have p2:=bP 2 XP3.o rfl
  rotate_left
  all_goals
   go_wp2;exact br_ (by simp [results,Tryz.results167,asAddr,Result.andThen,ld]) rfl FIN.o
 .go_wp2;exact br_ (by simp [results,Tryz.results167,asAddr,Result.andThen,ld]) rfl FIN.o
namespace Pu
theorem SgF.ge {j:Nat} (h:SgF s i j):i<=j:=by cases h <;> omega
theorem ItF.ge {s:Y_} {i j:Nat} (h:ItF s i j):i<=j:=by
 cases h with
 | one h1=>exact h1.ge
 | range h1 _ h3=>have:=h1.lt;have:=h3.ge;omega
theorem Rt.ge {s:Y_} {i k:Nat} (h:Rt s i k):i<=k:=by
 induction h with
 | here h1=>exact h1.ge
 | more h1 _ _ ih=>have:=h1.lt;omega
end Pu
theorem RH.acI {w':W_} {e:Ending} (OD:Pu.dG s i=91) (hok:iU ps) (hl:ps.length<=i)
  (h:RH B g s (if Pu.dG s (i+1)=94 then i+1+1 else i+1) (decide (Pu.dG s (i+1)=94)) d ps W e w'):uj B g s i .atom .atom d ps W e w':=by
 by_cases h94:Pu.dG s (i+1)=94
 .rw [if_pos h94,dt_ h94] at h;rcases h with ⟨k,T,D,v,vp,qs,hc,he,pm,rk,rd⟩ | ⟨k,d',v,vp,qs,hc,he,pm,rk,rd⟩
  .exact .inl ⟨k,.pl (mF T),D,v,vp,qs,.wZ OD h94 hc,he,pm,rk,rd⟩
  .have:=hc.ge;exact .inr ⟨k,ptZ,ps,d',v,vp,qs,.wZ OD h94 hc,he,pm,JI _,hok,⟨di,by omega⟩,rk,rd⟩
 .rw [if_neg h94,dn_ h94] at h;rcases h with ⟨k,T,D,v,vp,qs,hc,he,pm,rk,rd⟩ | ⟨k,d',v,vp,qs,hc,he,pm,rk,rd⟩
  .exact .inl ⟨k,.pl T,D,v,vp,qs,.cls OD h94 hc,he,pm,rk,rd⟩
  .have:=hc.ge;exact .inr ⟨k,ptZ,ps,d',v,vp,qs,.cls OD h94 hc,he,pm,JI _,hok,⟨di,by omega⟩,rk,rd⟩
theorem KY.acI {j:Nat} {T:Nat->Bool} {w':W_} {e:Ending} (hP:Pu.P s .atom i j (.pl T) false) (h:KY B g s j d (Pu.vQ T ps) W e w') :
  ∃c af mf cf al nl cl vp qs,e=.returned (.agg #[.bool c,.slice af mf cf,.slice al nl cl])/\Pm w' (.agg #[.bool c,.slice af mf cf,.slice al nl cl]) (Pu.part (.pl T) ps).1/\Rk B W w'/\Rd B g s j (Pu.part (.pl T) ps).2 (d || false) vp qs w'/\Pu.P s .atom i j (.pl T) false:=by
 obtain⟨v,vp,qs,rfl,pm,rk,rd⟩:=h.pm;obtain⟨af,mf,cf,al,nl,cl,rfl,n1,n2⟩:=pm;exact⟨_,af,mf,cf,al,nl,cl,vp,qs,rfl,⟨_,_,_,_,_,_,rfl,n1,n2⟩,rk,by rw [Bool.or_false];exact rd,hP⟩
theorem Lf (s:Y_) (i:Nat) (PA:i<s.size->Dp 140 .pa .pa s (i+1)) (hi:i<=s.size) (hs:s.size<=400):Dp 161 .atom .atom s i:=by
 intro B g ps d vp qs w h hok hl;have BL:=h.lt;have XR:Hid (dh (w.alloc (c_ #[.bool false,n_,n_] 83)) w.heap.size 83 [.bool false,n_,n_]):=hn_ _ _;have H0:=bK (h.below ((Br_ w.heap.size w).alloc di (c_ #[.bool false,n_,n_] 83)));have K0:Hid (Rk B w (w.alloc (c_ #[.bool false,n_,n_] 83))):=.alloc BL _;have OK:=bK hok;have PA:=bK PA;clear h hok;go_enter Tryz.func161,Tryz.ntmps161
 go_wp2_with fail
 generalize w.alloc (c_ #[.bool false,n_,n_] 83)=W0 at *;refine (lJ g i s vp d W0 H0.o.rb).mono ?_
 rintro e w1 ⟨rfl,hb1⟩;have R1:=bK (H0.o.below hb1);have K1:=bK (K0.o.trans (.below H0.o.lt hb1));have X1:=bK (bN XR.o hb1 (bO XR.o));clear hb1 H0 K0 XR
 obtain⟨b,hb⟩:∃b,b=Pu.dG s i:=⟨_,rfl⟩
 have HB:=bK hb;rw [<-hb];clear hb
 go_wp2_with fail
 refine (wI b w1).mono ?_
 rintro e w2 ⟨rfl,hb2⟩;have R2:=bK (R1.o.below hb2);have K2:=bK (K1.o.trans (.below R1.o.lt hb2));have X2:=bK (bN X1.o hb2 (bO X1.o));clear hb2 R1 K1 X1;have gl:=bO X2.o;by_cases hbeg:fJ b
 .rw [dt_ hbeg];by_cases ui:b=92
  .subst ui;have ES:=bK (LC B g i s ps d vp qs w2 R2.o OK.o hl hi hs HB.o.symm);clear hbeg
   go_wp2_with fail
   refine ES.o.mono ?_
   clear ES;intro e w3 hq;obtain⟨c,af,mf,cf,al,nl,cl,ok,rfl,X3,ld,FIN⟩:=hq.fin X2.o di K2.o BL;have FIN:=bK FIN;clear hq;have z0:=bP 0 X3 rfl;have z1:=bP 1 X3 rfl;have z2:=bP 2 X3 rfl;have f0:=bL X3 0;have f1:=bL X3 1;have f2:=bL X3 2;clear X3;go_wp2;exact br_ (by simp [results,Tryz.results161,asAddr,Result.andThen,ld]) rfl FIN.o
  .have e92:(b == 92)=false:=by simpa using ui
   have hne:b≠-1:=by unfold fJ at hbeg;omega
   have ilt:i<s.size:=Pu.fB (s:=s) (i:=i) (by rw [<-HB.o];exact hne);have BEG:=bK hbeg;have N92:=bK ui;clear hbeg ui hne;have c1:=bP 1 R2.o.rb rfl;have f1:=bL R2.o.rb 1;have wi:=kg i;have hg3:=gs_ w2 g 1 (I_ ((i:Int)+1));have R3:Hid (Rd B g s (i+1) ps d vp qs (w2.setCell (a_ g 1) (I_ ((i:Int)+1)))):=R2.o.eP hg3 (R2.o.rb.at (i+1));have K3:=bK (K2.o.trans (R2.o.rk hg3));have X3:=bK ((R2.o.rk hg3).fA X2.o (by decide) (by decide));clear hg3;by_cases Px:b=40
   .subst Px
    go_wp2_with fail
    clear c1 f1;generalize w2.setCell (a_ g 1) (I_ ((i:Int)+1))=W3 at *;refine (U0 B g i s ps d vp qs W3 (PA.o ilt) HB.o.symm R3.o OK.o hl hs).mono ?_
    intro e w4 hq;obtain⟨c,af,mf,cf,al,nl,cl,ok,rfl,X4,ld,FIN⟩:=hq.fin X3.o di K3.o BL;have FIN:=bK FIN;clear hq;have z0:=bP 0 X4 rfl;have z1:=bP 1 X4 rfl;have z2:=bP 2 X4 rfl;have f0:=bL X4 0;have f1:=bL X4 1;have f2:=bL X4 2;clear X4;go_wp2;exact br_ (by simp [results,Tryz.results161,asAddr,Result.andThen,ld]) rfl FIN.o
   .have e40:(b == 40)=false:=by simpa using Px
    by_cases OD:b=91
    .subst OD
     go_wp2_with fail
     clear c1 f1;generalize w2.setCell (a_ g 1) (I_ ((i:Int)+1))=W3 at *;refine (Uu B g (i+1) s ps d vp qs W3 _ rfl R3.o (by omega) (by omega) hs).mono ?_
     intro e w4 hq;have hq:=RH.acI HB.o.symm OK.o hl hq;obtain⟨c,af,mf,cf,al,nl,cl,ok,rfl,X4,ld,FIN⟩:=hq.fin X3.o di K3.o BL;have FIN:=bK FIN;clear hq;have z0:=bP 0 X4 rfl;have z1:=bP 1 X4 rfl;have z2:=bP 2 X4 rfl;have f0:=bL X4 0;have f1:=bL X4 1;have f2:=bL X4 2;clear X4;go_wp2;exact br_ (by simp [results,Tryz.results161,asAddr,Result.andThen,ld]) rfl FIN.o
    .have e91:(b == 91)=false:=by simpa using OD
     by_cases h46:b=46
     focus subst h46
     rotate_left
     focus
      have e46:(b == 46)=false:=by simpa using h46
      have PP:Hid (Pu.P s .atom i (i+1) (.pl (jf b)) false):=by have e:=HB.o;subst e;exact .Si BEG.o N92.o Px OD h46
      clear Px OD h46
     rotate_left
     all_goals
      go_wp2_with fail
      clear c1 f1;generalize w2.setCell (a_ g 1) (I_ ((i:Int)+1))=W3 at *
     focus
      refine (ET 10 W3).mono ?_
      rintro e w4 ⟨rfl,hb4⟩;have R4:=bK (R3.o.below hb4);have K4:=bK (K3.o.trans (.below R3.o.lt hb4));have X4:=bK (bN X3.o hb4 (bO X3.o));clear hb4 R3 K3 X3
      go_wp2_with fail
      refine (Dy (jf 10) w4).mono ?_
      rintro e w5 ⟨rfl,hb5⟩;have R5:=bK (R4.o.below hb5);have K5:=bK (K4.o.trans (.below R4.o.lt hb5));have X5:=bK (bN X4.o hb5 (bO X4.o));clear hb5 R4 K4 X4
      go_wp2_with fail
      refine (zL B g (i+1) s ps d vp qs (mF (jf 10)) w5 R5.o (by omega)).mono ?_
      intro e w6 hq;obtain⟨c,af,mf,cf,al,nl,cl,vp6,qs6,rfl,pm6,k6,r6,PP⟩:=hq.acI (.any HB.o.symm);have X6:=k6.fA X5.o (by decide) (by decide);obtain⟨ld,FIN⟩:=uj.yes (nf:=.atom) PP r6 pm6 X6 di (K5.o.trans k6) BL;have FIN:=bK FIN;clear hq pm6 k6 r6 PP
     rotate_left
     focus
      refine (ET b W3).mono ?_
      rintro e w5 ⟨rfl,hb5⟩;have R5:=bK (R3.o.below hb5);have K5:=bK (K3.o.trans (.below R3.o.lt hb5));have X5:=bK (bN X3.o hb5 (bO X3.o));clear hb5 R3 K3 X3
      go_wp2_with fail
      refine (zL B g (i+1) s ps d vp qs (jf b) w5 R5.o (by omega)).mono ?_
      intro e w6 hq;obtain⟨c,af,mf,cf,al,nl,cl,vp6,qs6,rfl,pm6,k6,r6,PP2⟩:=hq.acI PP.o;have X6:=k6.fA X5.o (by decide) (by decide);obtain⟨ld,FIN⟩:=uj.yes (nf:=.atom) PP2 r6 pm6 X6 di (K5.o.trans k6) BL;have FIN:=bK FIN;clear hq pm6 k6 r6 PP2
     all_goals
      have z0:=bP 0 X6 rfl;have z1:=bP 1 X6 rfl;have z2:=bP 2 X6 rfl;have f0:=bL X6 0;have f1:=bL X6 1;have f2:=bL X6 2;clear X6;go_wp2;exact br_ (by simp [results,Tryz.results161,asAddr,Result.andThen,ld]) rfl FIN.o
 .rw [dn_ hbeg];have PP:Hid (Pu.aI s .atom i i):=.none (by rw [<-HB.o];exact hbeg);clear hbeg;obtain⟨ld,FIN⟩:=uj.no (nt:=.atom) (d:=d) (ps:=ps) PP.o R2.o OK.o ⟨di,hl⟩ X2.o di K2.o BL;have FIN:=bK FIN;have z0:=bP 0 X2.o rfl;have z1:=bP 1 X2.o rfl;have z2:=bP 2 X2.o rfl;have f0:=bL X2.o 0;have f1:=bL X2.o 1;have f2:=bL X2.o 2;go_wp2;exact br_ (by simp [results,Tryz.results161,asAddr,Result.andThen,ld]) rfl FIN.o
end Go.Proofs.YtmccnmgaoppogaaGreat
