import Derived.Test.YtmccnmgaoppogaaGreatKbk
import Derived.Test.YtmccnmgaoppogaaGreatKbl
namespace Go.Proofs.YtmccnmgaoppogaaGreat
open Pu
set_option linter.all false
set_option maxRecDepth 100000
set_option maxHeartbeats 8000000
open Go.RowKit
variable {cap g gd i k':Nat} {W W':W_} {Cv Rm jb jh v:V_} {xs ys:List V_} {row:Option Nat} {ao:Option Addr}
theorem ahB (p:oC) (most depth:Int):Pu.Runs (xV p most depth) (rD p) (rD p):=
 ⟨.refl _,by unfold AY;rw [if_pos (.inr (by show ((0:Nat):Int)<=0;omega))]⟩
def Ao (P:V_->Prop) (w:W_) (g:Nat) (E:bH) (D:bI):Prop:=∃f ve vr vc vh b,P ve/\(D.err=0->b=E.ended)/\Scn w g { E with ended:=b } D f ve vr vc vh
theorem Ao.sc {P:V_->Prop} {w:W_} {E:bH} {D:bI} (h:Ao P w g E D):Sc w g E D:=by obtain⟨f,ve,vr,vc,vh,b,_,h1,h2⟩:=h;exact⟨f,ve,vr,vc,vh,b,h1,h2⟩
def qL (P:V_->Prop) (g:Nat) (E:bH) (C:bI) (w:W_) (e:Ending) (w':W_):Prop:=
 ∃D Tk vt,Pu.Runs E C D/\D.dV=C.dV++Tk/\e=.returned (.tuple #[vt,I_ D.err])/\w'.ownsRow w.heap.size 74 5 vt Tk.length (eB Tk)/\Ao P w' g E D/\w.grownBy w' (some g)
theorem JQ (P:V_->Prop) (g:Nat) (E:bH) (C:bI) (eZ:Y_) (w:W_) (h:Ao P w g E C) (hE:E.ended=false) (hs:E.s.size+eZ.size<=1099511627776) :
  C_ 72 #[p_ g,.string eZ] w (qL P g (E.on eZ false) C w):=by
 obtain⟨f,ve,vr,vc,vh,b,hP,hb,hS⟩:=h;have HP:=bK hP;clear hP;have HC:=bK (uQ g _ ve vr vc vh C C.err w hS.m);by_cases he:C.err=0
 focus
  have hb':=(hb he).trans hE;subst hb';have hsz:=hS.sta.within;have hp:=hS.sta.pos;have hlk:=hS.sta.looked;obtain⟨ah,ch,rfl,hh1,hh2⟩:=hS.h.form;have c24:=hS.m.cell (j:=24) rfl;have CV:=Lg w _ _ hS.h;have eH:ng { E with ended:=false } C=E.s.extract C.pos.toNat E.s.size:=by unfold ng;rw [if_neg (by omega)]
  rw [eH] at CV c24 hh1;have EJ:Hid (E.s.extract C.pos.toNat E.s.size++eZ=(E.on eZ false).s.extract C.pos.toNat (E.on eZ false).s.size):=Il E.s eZ C.pos.toNat (by simp at hsz;omega);have AD:Hid (C_ 104 #[p_ g,.string (E.s.extract C.pos.toNat E.s.size++eZ)] w (Dq f g (E.on eZ false) ve vr vc C w)):=by show Calls _ _ _ _ _;rw [EJ.o];have m1:=hS.m;rw [he] at m1;exact Bz f g (E.on eZ false) ve vr vc _ C w (hS.good.on eZ false) (hS.sta.on eZ false) he (by rw [mh];exact hs) (m1.env rfl rfl rfl rfl)
  have e0:shut false C.err=0:=by simp [shut,he]
  rw [e0] at HC;have hcat:(E.s.extract C.pos.toNat E.s.size).size+eZ.size<=1099511627776:=by simp;omega
  clear hS hb hE EJ eH hsz hp hlk hh1 hh2;generalize E.s.extract C.pos.toNat E.s.size=hd at *
 rotate_left
 focus
  have e0:shut b C.err=C.err:=by simp [shut,he]
  have e1:(C.err != 0)=true:=by simpa using he
  have SC:Hid (Ao P w g (E.on eZ false) C):=by refine⟨f,ve,vr,vc,vh,b,HP.o,fun h0=>absurd h0 he,hS.m.env rfl rfl rfl rfl,?_,hS.good.on eZ b,hS.sta.on eZ b⟩;have:=hS.h;unfold ng at this |-;rw [if_pos he] at this |-;exact this
  rw [e0] at HC;clear hS hb
 rotate_left
 all_goals
  go_enter Tryz.func72,Tryz.ntmps72
  go_wp2_with fail
  refine HC.o.mono ?_
  rintro e w1 ⟨rfl,rfl⟩;clear HC
 .go_wp2_with fail
  refine AD.o.mono ?_
  rintro e w2 ⟨D,Tk,vt,vh',hr,ht,rfl,ho,hS,hg⟩;have FIN:Hid (qL P g (E.on eZ false) C w1 (.returned (.tuple #[vt,I_ D.err])) w2):=⟨D,Tk,vt,hr,ht,rfl,ho,⟨f,ve,vr,vc,vh',false,HP.o,fun _=>rfl,hS⟩,hg⟩;clear AD hr ht ho hS hg;go_wp2
  go_ret2
  exact FIN.o
 .go_wp2
  go_ret2
  exact⟨C,[],_,⟨.refl _,zG he⟩,by simp,rfl,World.ownsRow_nil _ _ _ _,SC.o,World.grownBy.refl _ _⟩
theorem Fs (P:V_->Prop) (g:Nat) (E:bH) (C:bI) (w:W_) (h:Ao P w g E C) (hE:E.ended=false) (hs:E.s.size<=1099511627776) :
  C_ 74 #[p_ g] w (qL P g (E.on fe true) C w):=by
 obtain⟨f,ve,vr,vc,vh,b,hP,hb,hS⟩:=h;have HP:=bK hP;clear hP;have HC:=bK (uQ g _ ve vr vc vh C C.err w hS.m);by_cases he:C.err=0
 focus
  have hb':=(hb he).trans hE;subst hb';have hsz:=hS.sta.within;have hp:=hS.sta.pos;have hlk:=hS.sta.looked;obtain⟨ah,ch,rfl,hh1,hh2⟩:=hS.h.form;have m1:=hS.m;rw [he] at m1;have m2:=m1.set 25 (.bool true) (E.on fe true) rfl (D:=C) (fault':=0) rfl;have G1:=bK (gs_ w g 25 (.bool true));have hB2:=hS.h.on m1.fA (by decide) G1.o;have c25:=hS.m.cell (j:=25) rfl;have f25:=hS.m.frozen 25;have c24:=m2.cell (j:=24) rfl;have CV:=Lg _ _ _ hB2;have eH:ng { E with ended:=false } C=E.s.extract C.pos.toNat E.s.size:=by unfold ng;rw [if_neg (by omega)]
  rw [eH] at CV c24 hh1;have EJ:Hid (E.s.extract C.pos.toNat E.s.size=(E.on fe true).s.extract C.pos.toNat (E.on fe true).s.size):=by have:=Il E.s fe C.pos.toNat (by simp at hsz;omega);show _=_;rw [show (E.on fe true).s=E.s++fe from rfl,<-this];apply ByteArray.ext;simp [fe]
  have AD:Hid (C_ 104 #[p_ g,.string (E.s.extract C.pos.toNat E.s.size)] (w.setCell (a_ g 25) (.bool true)) (Dq f g (E.on fe true) ve vr vc C (w.setCell (a_ g 25) (.bool true)))):=by show Calls _ _ _ _ _;rw [EJ.o];exact Bz f g (E.on fe true) ve vr vc _ C _ (hS.good.on fe true) (hS.sta.on fe true) he (by rw [mh];exact hs) m2
  have e0:shut false C.err=0:=by simp [shut,he]
  rw [e0] at HC;have SZ:Hid ((w.setCell (a_ g 25) (.bool true)).heap.size=w.heap.size):=by show _=_;simp [World.setCell]
  clear hS hb hE EJ eH hsz hp hlk hh1 hh2 m1 m2 hB2;generalize E.s.extract C.pos.toNat E.s.size=hd at *
 rotate_left
 focus
  have e0:shut b C.err=C.err:=by simp [shut,he]
  have e1:(C.err != 0)=true:=by simpa using he
  have SC:Hid (Ao P w g (E.on fe true) C):=by refine⟨f,ve,vr,vc,vh,b,HP.o,fun h0=>absurd h0 he,hS.m.env rfl rfl rfl rfl,?_,hS.good.on fe b,hS.sta.on fe b⟩;have:=hS.h;unfold ng at this |-;rw [if_pos he] at this |-;exact this
  rw [e0] at HC;clear hS hb
 rotate_left
 all_goals
  go_enter Tryz.func74,Tryz.ntmps74
  go_wp2_with fail
  refine HC.o.mono ?_
  rintro e w1 ⟨rfl,rfl⟩;clear HC
 .go_wp2_with fail
  refine AD.o.mono ?_
  rintro e w2 ⟨D,Tk,vt,vh',hr,ht,rfl,ho,hS,hg⟩;rw [SZ.o] at ho;have FIN:Hid (qL P g (E.on fe true) C w1 (.returned (.tuple #[vt,I_ D.err])) w2):=⟨D,Tk,vt,hr,ht,rfl,ho,⟨f,ve,vr,vc,vh',true,HP.o,fun _=>rfl,hS⟩,Lib.grownBy_trans G1.o hg⟩;clear AD hr ht ho hS hg;go_wp2
  go_ret2
  exact FIN.o
 .go_wp2
  go_ret2
  exact⟨C,[],_,⟨.refl _,zG he⟩,by simp,rfl,World.ownsRow_nil _ _ _ _,SC.o,World.grownBy.refl _ _⟩
theorem UK (P:V_->Prop) (g:Nat) (E:bH) (C:bI) (eZ:Y_) (w:W_) (h:Ao P w g E C) (hE:E.ended=false) (hs:E.s.size+eZ.size<=1099511627776) :
  C_ 37 #[p_ g,.string eZ] w (qL P g (E.on eZ false) C w):=by
 have H:=bK (JQ P g E C eZ w h hE hs);clear h hE hs;go_enter Tryz.func37,Tryz.ntmps37
 go_wp2_with fail
 refine H.o.mono ?_
 rintro e w2 ⟨D,Tk,vt,hr,ht,rfl,ho,hS,hg⟩
 have FIN:Hid (qL P g (E.on eZ false) C w (.returned (.tuple #[vt,I_ D.err])) w2):=⟨D,Tk,vt,hr,ht,rfl,ho,hS,hg⟩
 clear H hr ht ho hS hg;go_wp2
 go_ret2
 exact FIN.o
theorem LP (P:V_->Prop) (g:Nat) (E:bH) (C:bI) (w:W_) (h:Ao P w g E C) (hE:E.ended=false) (hs:E.s.size<=1099511627776) :
  C_ 39 #[p_ g] w (qL P g (E.on fe true) C w):=by
 have H:=bK (Fs P g E C w h hE hs);clear h hE hs;go_enter Tryz.func39,Tryz.ntmps39
 go_wp2_with fail
 refine H.o.mono ?_
 rintro e w2 ⟨D,Tk,vt,hr,ht,rfl,ho,hS,hg⟩
 have FIN:Hid (qL P g (E.on fe true) C w (.returned (.tuple #[vt,I_ D.err])) w2):=⟨D,Tk,vt,hr,ht,rfl,ho,hS,hg⟩
 clear H hr ht ho hS hg;go_wp2
 go_ret2
 exact FIN.o
def Ui (s:Y_) (most depth:Int) (w:W_) (e:Ending) (w':W_):Prop:=
 (CO s most depth/\∃g,e=.returned (.tuple #[p_ g,I_ 0])/\w.heap.size<=g/\B_ w w'/\Ao (T.yT w.heap.size g) w' g (xV (eX s) most depth) (rD (eX s)))\/
 (¬(Form s/\iy (eX s))/\e=.returned (.tuple #[.pointer none,I_ 2])/\B_ w w')\/
 ((Form s/\iy (eX s))/\¬((1<=most/\most<=64)/\(0<=depth/\depth<=8))/\e=.returned (.tuple #[.pointer none,I_ 3])/\B_ w w')
theorem FH (s:Y_) (most depth:Int) (w:W_) (hs:s.size<=9223372036854775807) (_rm:Gh most) (_rd:Gh depth) :
  C_ 34 #[.string s,I_ most,I_ depth] w (Ui s most depth w):=by
 go_enter Tryz.func34,Tryz.ntmps34
 go_wp2_with fail
 refine (Rh s _ hs).mono ?_
 rintro e w1 (⟨hF,hP,ve,vr,vc,rfl,hB1,he,hr,hc⟩ | ⟨hF,rfl,hB1⟩)
 rotate_left
 .have HF:=bK hF;have HB:=bK hB1;clear hF hB1;go_wp2
  go_ret2
  exact .inr (.inl ⟨HF.o,rfl,HB.o.alloc HB.o.size _⟩)
 .have l1:(eX s).ents.length=nE s:=uT _ _ _;have l2:(eX s).rules.length=nR s:=nk _ _ _;have l3:(eX s).code.length=nC s:=yB _ _ _;rw [<-l1] at he;rw [<-l2] at hr;rw [<-l3] at hc;have hn1:=hP.1.1;have hn2:=hP.2.1.1;have hn3:=hP.2.2.1.1;obtain⟨ge,ce,rfl,e1,e2⟩:=dJ he (by omega);obtain⟨gr,cr,rfl,r1,r2⟩:=dJ hr (by omega);obtain⟨gc,cc,rfl,c1,c2⟩:=dJ hc (by omega);have OW:=bK (lI he);have HL:Hid (Lists w1 (eX s) _ _ _):=⟨dH he (zl_ _),dH hr (zl_ _),dH hc (zl_ _)⟩;have cE:=JF he (i:=0) (by omega);have HFP:=bK (And.intro hF hP);have HB:=bK hB1;clear he hr hc hF hP hB1 l1 l2 l3;by_cases m1:most<1
  .have d1:decide (most<1)=true:=dt_ m1;go_wp2
   go_ret2
   exact .inr (.inr ⟨HFP.o,fun h=>by omega,rfl,HB.o.alloc HB.o.size _⟩)
  by_cases m2:64<most
  .have d1:decide (most<1)=false:=dn_ m1;have d2:decide (64<most)=true:=dt_ m2;go_wp2
   go_ret2
   exact .inr (.inr ⟨HFP.o,fun h=>by omega,rfl,HB.o.alloc HB.o.size _⟩)
  by_cases m3:depth<0
  .have d1:decide (most<1)=false:=dn_ m1;have d2:decide (64<most)=false:=dn_ m2;have d3:decide (depth<0)=true:=dt_ m3;go_wp2
   go_ret2
   exact .inr (.inr ⟨HFP.o,fun h=>by omega,rfl,HB.o.alloc HB.o.size _⟩)
  by_cases m4:8<depth
  .have d1:decide (most<1)=false:=dn_ m1;have d2:decide (64<most)=false:=dn_ m2;have d3:decide (depth<0)=false:=dn_ m3;have d4:decide (8<depth)=true:=dt_ m4;go_wp2
   go_ret2
   exact .inr (.inr ⟨HFP.o,fun h=>by omega,rfl,HB.o.alloc HB.o.size _⟩)
  have d1:decide (most<1)=false:=dn_ m1;have d2:decide (64<most)=false:=dn_ m2;have d3:decide (depth<0)=false:=dn_ m3;have d4:decide (8<depth)=false:=dn_ m4;have HM:Hid ((1<=most/\most<=64)/\(0<=depth/\depth<=8)):=⟨⟨by omega,by omega⟩,⟨by omega,by omega⟩⟩;have B1:=bK (HB.o.alloc HB.o.size (c_ #[s_ ge (eX s).ents.length ce,s_ gr (eX s).rules.length cr,s_ gc (eX s).code.length cc] 43));have BA:=bK ((Br_ w1.heap.size w1).alloc di (c_ #[s_ ge (eX s).ents.length ce,s_ gr (eX s).rules.length cr,s_ gc (eX s).code.length cc] 43));clear m1 m2 m3 m4
  go_wp2_with fail
  refine (QM ge ce _ _ cr _ _ cc (eX s) most depth _ ((BA.o.cell (p:=(a_ ge 0)) (World.block_lt_of_cell? w1 (a_ ge 0) cE)).trans cE) (by omega) e1 e2).mono ?_
  rintro e w2 ⟨rfl,hB2⟩;have SZ:Hid (w1.heap.size<=w2.heap.size):=lt_ BA.o.size hB2.size;have B2:=bK (B1.o.trans (hB2.mono (by have:=BA.o.size;have:=HB.o.size;omega)));have L2:=bK ((HL.o.below BA.o).below hB2);clear hB2 BA B1 HL HB cE
  go_wp2_with (first | (refine Cw rfl 177 _ rfl (beginC (s_ ge (eX s).ents.length ce) (s_ gr (eX s).rules.length cr) (s_ gc (eX s).code.length cc) most depth (Pu.aU (eX s).ents 0)) (by kernel_rfl) ?_))
  go_ret2
  refine .inl ⟨⟨HFP.o,HM.o⟩,w2.heap.size,rfl,B2.o.size,B2.o.alloc B2.o.size _,?_⟩;obtain⟨f,hf⟩:=adn HFP.o.2 HM.o.1 HM.o.2;have hb:dh (w2.alloc (c_ (beginC (s_ ge (eX s).ents.length ce) (s_ gr (eX s).rules.length cr) (s_ gc (eX s).code.length cc) most depth (Pu.aU (eX s).ents 0)) 177)) w2.heap.size 177 (beginC (s_ ge (eX s).ents.length ce) (s_ gr (eX s).rules.length cr) (s_ gc (eX s).code.length cc) most depth (Pu.aU (eX s).ents 0)).toList:=hn_ w2 (c_ (beginC (s_ ge (eX s).ents.length ce) (s_ gr (eX s).rules.length cr) (s_ gc (eX s).code.length cc) most depth (Pu.aU (eX s).ents 0)) 177);rw [Li] at hb;refine⟨f,_,_,_,n_,false,fun x hx=>by cases hx;exact⟨OW.o.1,Nat.lt_of_lt_of_le OW.o.2 SZ.o⟩,fun _=>rfl,⟨hb,L2.o.below (mi _)⟩,.inl ⟨?_,rfl⟩,hf,ahF hf⟩;unfold ng;rw [if_neg (by show ¬((0:Int)≠0);omega)];rfl
def Safe (W:W_) (L g:Nat) (row:Option Nat):Prop:=
 some g≠row/\∀b,row=some b->∀cs t fr,W.heap[b]?=some (c_ cs t fr)->(t≠59/\t≠99/\t≠161/\t≠101)/\t≠61/\t≠5/\(t=3->¬(L<=b/\b<g))
theorem rW {base e size n:Nat} (h:W.ownsRow base e size v n xs) (hg:W.grownBy W' row) (hne:∀g cur,v.ownBlock=some g->W.heap[g]?=some (c_ cur e (0,0))->some g≠row):W'.ownsRow base e size v n xs:=by
 rcases h with ⟨h1,⟨rfl,h2⟩ | ⟨g,cap,cur,rfl,h3,h4,h5⟩⟩
 .exact⟨h1,.inl ⟨rfl,h2⟩⟩
 .have hl:g<W.heap.size:=(Array.getElem?_eq_some_iff.1 h4).1;exact⟨h1,.inr ⟨g,cap,cur,rfl,h3,by rw [hg.block g hl (hne g cur rfl h4)];exact h4,h5⟩⟩
theorem Lists.jy {p:oC} {ve vr vc:V_} {L:Nat} (h:Lists W p ve vr vc) (ho:T.yT L g ve) (hs:Safe W L g row) (hg:W.grownBy W' row):Lists W' p ve vr vc:=by
 refine⟨rW h.e hg ?_,rW h.r hg ?_,rW h.c hg ?_⟩
 .intro x cur hx hc e;have:=hs.2 x e.symm cur _ _ hc;exact this.2.2.2 rfl (ho x hx)
 .intro x cur hx hc e;exact (hs.2 x e.symm cur _ _ hc).1.1 rfl
 .intro x cur hx hc e;exact (hs.2 x e.symm cur _ _ hc).2.1 rfl
theorem Ru.jy {all:List aC} {gT:Nat} (h:Ru W all gT) (hs:∀b,row=some b->∀cs t fr,W.heap[b]?=some (c_ cs t fr)->t≠99/\t≠161/\t≠101) (hg:W.grownBy W' row):Ru W' all gT:=by
 obtain⟨B,s0,vn,al,cl,k1,k2,k3,k4⟩:=h;refine⟨B,s0,vn,al,cl,k1,k2,⟨bQ k3.rb hg (fun e=>?_),k3.up,rW k3.own hg ?_⟩,rW k4 hg ?_⟩
 .exact (hs gT e.symm _ _ _ k3.rb).1 rfl
 .intro x cur hx hc e;exact (hs x e.symm cur _ _ hc).2.1 rfl
 .intro x cur hx hc e;exact (hs x e.symm cur _ _ hc).2.2 rfl
theorem T.Lists.jy {W W':W_} {p:oC} {ve vr vc:V_} {L g:Nat} {row:Option Nat} (h:T.Lists W p ve vr vc) (hs:Safe W L g row) (hg:W.grownBy W' row):T.Lists W' p ve vr vc:=by obtain⟨all,gT,h1,h2,h3,h4⟩:=h;exact⟨all,gT,h1,h2,h3.jy (fun b e cs t fr hc=>(hs.2 b e cs t fr hc).1.2) hg,h4⟩
theorem lV.jy {s:Y_} {L:Nat} (h:lV W v s) (hs:Safe W L g row) (hg:W.grownBy W' row):lV W' v s:=by
 rcases h with h | ⟨b,cap,cs,fr,h1,h2,h3,h4,h5⟩
 .exact .inl h
 .have hl:b<W.heap.size:=(Array.getElem?_eq_some_iff.1 h4).1;refine .inr ⟨b,cap,cs,fr,h1,h2,h3,?_,h5⟩;rw [hg.block b hl (fun e=>(hs.2 b e.symm cs _ _ h4).2.2.1 rfl)];exact h4
theorem Ao.jy {W W':W_} {L g:Nat} {E:bH} {C:bI} {row:Option Nat} (h:Ao (T.yT L g) W g E C) (hs:Safe W L g row) (hg:W.grownBy W' row):Ao (T.yT L g) W' g E C:=by obtain⟨f,ve,vr,vc,vh,b,h0,h1,h2⟩:=h;exact⟨f,ve,vr,vc,vh,b,h0,h1,⟨bQ h2.m.fA hg hs.1,h2.m.l.jy h0 hs hg⟩,h2.h.jy hs hg,h2.good,h2.sta⟩
theorem T.Ds.jy {W W':W_} {L g:Nat} {E:bH} {C:bI} {row:Option Nat} (h:T.Ds (T.yT L g) W g E C) (hs:Safe W L g row) (hg:W.grownBy W' row):T.Ds (T.yT L g) W' g E C:=by obtain⟨ve,vr,vc,f,h0,h1,h2,h3⟩:=h;exact⟨ve,vr,vc,f,h0,bQ h1 hg hs.1,h2.jy hs hg,h3⟩
theorem Ao.below {P:V_->Prop} {W W':W_} {g:Nat} {E:bH} {C:bI} (h:Ao P W g E C) (hb:B_ W W'):Ao P W' g E C:=by obtain⟨f,ve,vr,vc,vh,b,h0,h1,h2⟩:=h;exact⟨f,ve,vr,vc,vh,b,h0,h1,h2.m.below hb,h2.h.below hb,h2.good,h2.sta⟩
theorem Ao.fA {P:V_->Prop} {W:W_} {g:Nat} {E:bH} {C:bI} (h:Ao P W g E C):∃xs,dh W g 177 xs:=by obtain⟨f,ve,vr,vc,vh,b,h0,h1,h2⟩:=h;exact⟨_,h2.m.fA⟩
theorem T.Ds.fA {P:V_->Prop} {E:bH} {C:bI} (h:T.Ds P W g E C):∃xs,dh W g 133 xs:=by obtain⟨ve,vr,vc,f,h0,h1,h2,h3⟩:=h;exact⟨_,h1⟩
theorem zI (e:Int) (w:W_):C_ 13 #[I_ e] w (sN (I_ e) w):=by
 go_enter Tryz.func13,Tryz.ntmps13;go_wp2;go_ret
 exact⟨rfl,rfl⟩
theorem NP (va vb:V_) (l:List bJ) (w:W_) (ba bb:Nat) (ha:w.ownsRow ba 74 5 va l.length (eB l)) (hb:w.ownsRow bb 74 5 vb l.length (eB l)) :
  C_ 41 #[va,vb] w (Du (.bool true) w):=by
 have RA:Hid (∀i,i<l.length->∃b cap,va=s_ b l.length cap/\b<w.heap.size/\w.cell? (a_ b (i*5))=some (I_ (l.getD i T.sK).rule)/\w.cell? (a_ b (i*5+1))=some (I_ (l.getD i T.sK).pos)/\w.cell? (a_ b (i*5+2))=some (I_ (l.getD i T.sK).len)/\w.cell? (a_ b (i*5+3))=some (I_ (l.getD i T.sK).line)/\w.cell? (a_ b (i*5+4))=some (I_ (l.getD i T.sK).iH)):=fun i hi=>by obtain⟨b,cap,rfl,_,_⟩:=dJ ha (by omega);have q:=T.xE l i hi;exact⟨b,cap,rfl,(lI ha).2,bT ha q.1,bT ha q.2.1,bT ha q.2.2.1,bT ha q.2.2.2.1,bT ha q.2.2.2.2⟩
 have RB:Hid (∀i,i<l.length->∃b cap,vb=s_ b l.length cap/\b<w.heap.size/\w.cell? (a_ b (i*5))=some (I_ (l.getD i T.sK).rule)/\w.cell? (a_ b (i*5+1))=some (I_ (l.getD i T.sK).pos)/\w.cell? (a_ b (i*5+2))=some (I_ (l.getD i T.sK).len)/\w.cell? (a_ b (i*5+3))=some (I_ (l.getD i T.sK).line)/\w.cell? (a_ b (i*5+4))=some (I_ (l.getD i T.sK).iH)):=fun i hi=>by obtain⟨b,cap,rfl,_,_⟩:=dJ hb (by omega);have q:=T.xE l i hi;exact⟨b,cap,rfl,(lI hb).2,bT hb q.1,bT hb q.2.1,bT hb q.2.2.1,bT hb q.2.2.2.1,bT hb q.2.2.2.2⟩
 obtain⟨aa,ca,rfl,ha1,ha2,-⟩:=jT ha;obtain⟨ab,cb,rfl,hb1,hb2,-⟩:=jT hb;unfold maxLen at ha2 hb2;clear ha hb;go_enter Tryz.func41,Tryz.ntmps41
 go_wp2_with fail
 go_loopw [5] (fun i wr=>∃k:Nat,k<=l.length/\i=I_ k/\B_ w wr) (fun i _=>l.length-(intOf i).toNat)
 case atStart=>exact⟨0,zl_ _,rfl,Br_ _ _⟩
 case round=>
  obtain⟨k,hk,rfl,hbel⟩:=hrel;by_cases hlt:k<l.length
  .obtain⟨xa,ya,hva,lta,e0,e1,e2,e3,e4⟩:=RA.o k hlt;obtain⟨xb,yb,hvb,ltb,f0,f1,f2,f3,f4⟩:=RB.o k hlt;obtain⟨rfl,rfl⟩:aa=some (a_ xa 0)/\ca=ya:=by simpa using hva
   obtain⟨rfl,rfl⟩:ab=some (a_ xb 0)/\cb=yb:=by simpa using hvb
   have g0:=(hbel.cell (p:=(a_ xa (k*5))) lta).trans e0;have g1:=(hbel.cell (p:=(a_ xa (k*5+1))) lta).trans e1;have g2:=(hbel.cell (p:=(a_ xa (k*5+2))) lta).trans e2;have g3:=(hbel.cell (p:=(a_ xa (k*5+3))) lta).trans e3;have g4:=(hbel.cell (p:=(a_ xa (k*5+4))) lta).trans e4;have h0:=(hbel.cell (p:=(a_ xb (k*5))) ltb).trans f0;have h1:=(hbel.cell (p:=(a_ xb (k*5+1))) ltb).trans f1;have h2:=(hbel.cell (p:=(a_ xb (k*5+2))) ltb).trans f2;have h3:=(hbel.cell (p:=(a_ xb (k*5+3))) ltb).trans f3;have h4:=(hbel.cell (p:=(a_ xb (k*5+4))) ltb).trans f4;have hki:(k:Int)<l.length:=by omega
   clear e0 e1 e2 e3 e4 f0 f1 f2 f3 f4 RA RB hva hvb;generalize (l.getD k T.sK).rule=y0 at *;generalize (l.getD k T.sK).pos=y1 at *;generalize (l.getD k T.sK).len=y2 at *;generalize (l.getD k T.sK).line=y3 at *;generalize (l.getD k T.sK).iH=y4 at *
   go_wp2_with fail
   go_quiet (fail);go_wp2
   go_roundw
   case rel=>exact⟨k+1,by omega,by go_num,bd_ hbel _⟩
   case measure=>simp [intOf];omega
  .go_wp2;go_ret;exact⟨rfl,hbel⟩
theorem U7 {f:Nat->Int} {E E':bH} {C:bI} (h:C.err=0->E.s=E'.s) (hs:C.err=0->wD E' f C):((ng E C).size:Int)=T.yj E' C:=by
 unfold ng T.yj;by_cases he:C.err=0
 .rw [if_neg (by omega),if_neg (by omega),h he];have s:=hs he;have:=s.pos;have:=s.within;have:=s.looked;simp;omega
 .rw [if_pos he,if_pos he];rfl
theorem LV (g gs:Nat) (P P':V_->Prop) (E E':bH) (C:bI) (w:W_) (h:Ao P w g E C) (h':T.Ds P' w gs E' C) (hE:C.err=0->E.s=E'.s) :
  C_ 22 #[.agg #[p_ g,p_ gs]] w (Du (.bool true) w):=by
 obtain⟨ve,vr,vc,f,-,hb,hl,gd,hr⟩:=h';obtain⟨all,gT,rfl,-⟩:=hl;have hs:=U7 (E:=E) (f:=f) hE (fun _=>hr.1.inv gd (Wq gd));have ST:=bK (fun W (hW:Sc W g E C)=>NR g E C W hW);have gl:=bO hb;have SW:=bK h.sc;have HB:=bK hb;have glt:=h.sc.lt;clear h hE gd hr hb;unfold aak at ST;rw [hs] at ST;go_enter Tryz.func22,Tryz.ntmps22
 go_wp2_with fail
 refine (ST.o _ (SW.o.below (mi _))).mono ?_
 rintro e w1 ⟨rfl,hb1⟩;have B1:=bK (((Br_ w.heap.size w).alloc di (c_ #[p_ g,p_ gs] 70)).trans (hb1.mono (by simp)));have K1:Hid (dh w1 w.heap.size 70 [p_ g,p_ gs]):=bN (hn_ w _) hb1 (by simp);have K2:=bK (bN HB.o B1.o gl);have k0:=bP 0 K1.o rfl;have k1:=bP 1 K1.o rfl;have g3:=bP 3 K2.o rfl;have g10:=bP 10 K2.o rfl;have g11:=bP 11 K2.o rfl;have g12:=bP 12 K2.o rfl;have g13:=bP 13 K2.o rfl;have g14:=bP 14 K2.o rfl;have g15:=bP 15 K2.o rfl;have g16:=bP 16 K2.o rfl;have l1:=bO K1.o;have l2:=bO K2.o;have ne1:w.heap.size≠w1.heap.size:=by omega
 have yZ:gs≠w1.heap.size:=by omega
 have ne3:gs≠w1.heap.size+1:=by omega
 have ne4:w.heap.size≠w1.heap.size+1:=by omega
 clear hb1 ST SW hs;generalize T.yj E' C=hn at *;generalize C.pos=y0 at *;generalize C.line=y1 at *;generalize C.iH=y2 at *;generalize C.mode=y3 at *;generalize C.iW=y4 at *;generalize C.steps=y6 at *;by_cases hz:y6=0
 focus subst hz
 rotate_left
 focus have q6:(y6 == 0)=false:=by simpa using hz
 all_goals
  go_wp2;go_ret;exact⟨rfl,(B1.o.alloc (by omega) _).alloc (by simp;omega) _⟩
theorem abB (t e size:Nat) (ht:Tryz.prog.underlying t=some (.slice e)) (hs:(Tryz.prog.info? e).map (·.size)=some size) (ao:Option Addr) (n c:Nat) (hn:ao=none->c=0) (w:W_):(Instr.slice t (.slice ao n c) none (some (I_ c)) none).run Tryz.prog w=.ok (.slice ao c c) w:=by
 cases hq:Tryz.prog.info? e with
 | none=>simp [hq] at hs
 | some i=>
  cases ao with
  | none=>have:=hn rfl;subst this;simp [go_sem,ht,sizeOf,typeInfo,hq]
  | some a=>simp [go_sem,ht,sizeOf,typeInfo,hq]
theorem Tryz.inft72 : (Tryz.prog.info? 72).map (fun i=>(i.zero,i.size,i.bytes))=some (some n_,1,24):=by kernel_rfl
theorem Fy:(Tryz.prog.info? 74).map (·.size)=some 5:=by kernel_rfl
def Part (W:W_) (ao:Option Addr) (cap i:Nat) (v:V_):Prop:=
 (ao=none/\cap=0)\/∃g old,ao=some (a_ g 0)/\dh W g 74 (List.replicate (i*5) v++old)/\i*5+old.length=cap*5
structure Cg (gd:Nat) (ao:Option Addr) (jh jb:V_) (Q:W_->Prop):Prop where
 below:∀W W',Q W->B_ W W'->Q W'
 drawer:∀W j u xs,Q W->dh W gd 33 xs->Q (W.setCell (a_ gd j) u)
 token:∀W g j u xs,Q W->ao=some (a_ g 0)->dh W g 74 xs->Q (W.setCell (a_ g j) u)
 lists:∀W W' n xs,Q W->W.ownsRow gd 72 1 jh n xs->W.grownBy W' jh.ownBlock->Q W'
 numbers:∀W W' n xs,Q W->W.ownsRow gd 3 1 jb n xs->W.grownBy W' jb.ownBlock->Q W'
def drC (n:Int) (jh jb:V_):List V_:=[I_ n,n_,n_,n_,jh,n_,n_,n_,jb]
structure KT (Q:W_->Prop) (gd:Nat) (ao:Option Addr) (cap i:Nat) (v:V_) (m:Int) (jh jb:V_) (k k':Nat) (xs ys:List V_) (W:W_):Prop where
 q:Q W
 d:dh W gd 33 (drC m jh jb)
 t:Part W ao cap i v
 l:W.ownsRow gd 72 1 jh k xs
 n:W.ownsRow gd 3 1 jb k' ys
theorem Part.jy (h:Part W ao cap i v) (hk:∀g xs,ao=some (a_ g 0)->dh W g 74 xs->dh W' g 74 xs):Part W' ao cap i v:=by
 rcases h with h | ⟨g,old,h1,h2,h3⟩
 .exact .inl h
 .exact .inr ⟨g,old,h1,hk g _ h1 h2,h3⟩
theorem Part.nil (h:Part W ao cap i v):ao=none->cap=0:=by
 rcases h with h | ⟨g,old,h1,_⟩
 .exact fun _=>h.2
 .intro e;rw [h1] at e;cases e
section
variable {Q:W_->Prop} {gd:Nat} {ao:Option Addr} {cap i:Nat} {v:V_} {m:Int} {jh jb:V_} {k k':Nat} {xs ys:List V_} {W W':W_}
theorem KT.below {Rm Cv:V_} (h:KT Q gd ao cap i v m jh jb k k' xs ys W) (hQ:Cg gd ao Rm Cv Q) (hb:B_ W W'):KT Q gd ao cap i v m jh jb k k' xs ys W':=
 ⟨hQ.below _ _ h.q hb,bN h.d hb (bO h.d),h.t.jy (fun _ _ _ b=>bN b hb (bO b)),bU h.l hb di,bU h.n hb di⟩
theorem KT.akL (h:KT Q gd ao cap i v m jh jb k k' xs ys W) (hQ:Cg gd ao Rm Cv Q) (j:Nat) (u:V_) {m':Int} (he:(drC m jh jb).set j u=drC m' jh jb):KT Q gd ao cap i v m' jh jb k k' xs ys (W.setCell (a_ gd j) u):=by have hg:=gs_ W gd j u;exact⟨hQ.drawer _ _ _ _ h.q h.d,by rw [<-he];exact cO h.d j u,h.t.jy (fun _ _ _ b=>dB b (T.iB b h.d (by decide)) _ _),dM h.l h.d (by decide) hg,dM h.n h.d (by decide) hg⟩
end
theorem KT.tok {Q:W_->Prop} {m:Int} {k:Nat} (h:KT Q gd (some (a_ g 0)) cap i v m jh jb k k' xs ys W) (hQ:Cg gd (some (a_ g 0)) Rm Cv Q) (hi:i<cap) :
  KT Q gd (some (a_ g 0)) cap (i+1) v m jh jb k k' xs ys (((((W.setCell (a_ g (i*5)) v).setCell (a_ g (i*5+1)) v).setCell (a_ g (i*5+2)) v).setCell (a_ g (i*5+3)) v).setCell (a_ g (i*5+4)) v):=by
 have st:∀{W:W_} (j:Nat) {zs:List V_},(Q W/\dh W gd 33 (drC m jh jb)/\dh W g 74 zs/\W.ownsRow gd 72 1 jh k xs/\W.ownsRow gd 3 1 jb k' ys)->
   (Q (W.setCell (a_ g j) v)/\dh (W.setCell (a_ g j) v) gd 33 (drC m jh jb)/\dh (W.setCell (a_ g j) v) g 74 (zs.set j v)/\(W.setCell (a_ g j) v).ownsRow gd 72 1 jh k xs/\(W.setCell (a_ g j) v).ownsRow gd 3 1 jb k' ys):=by
  intro W j zs z;have hg:=gs_ W g j v;exact⟨hQ.token _ _ _ _ _ z.1 rfl z.2.2.1,dB z.2.1 (T.iB z.2.1 z.2.2.1 (by decide)) _ _,cO z.2.2.1 j v,dM z.2.2.2.1 z.2.2.1 (by decide) hg,dM z.2.2.2.2 z.2.2.1 (by decide) hg⟩
 rcases h.t with ⟨h1,_⟩ | ⟨g',old,h1,h2,h3⟩
 .cases h1
 .cases h1
  match old,h3,h2 with
  | a0::a1::a2::a3::a4::r,h3,h2=>
   have z:=st (i*5+4) (st (i*5+3) (st (i*5+2) (st (i*5+1) (st (i*5) ⟨h.q,h.d,h2,h.l,h.n⟩))));refine⟨z.1,z.2.1,.inr ⟨g,r,rfl,?_,by simp at h3;omega⟩,z.2.2.2.1,z.2.2.2.2⟩
   have e:((((((List.replicate (i*5) v++a0::a1::a2::a3::a4::r).set (i*5) v).set (i*5+1) v).set (i*5+2) v).set (i*5+3) v).set (i*5+4) v)=List.replicate ((i+1)*5) v++r:=by
    have e1:(i+1)*5=i*5+5:=by omega
    rw [e1];generalize i*5=q;rw [List.set_append_right _ _ (by simp),List.set_append_right _ _ (by simp),List.set_append_right _ _ (by simp),List.set_append_right _ _ (by simp),List.set_append_right _ _ (by simp)];simp only [lp_,Nat.sub_self,Nat.add_sub_cancel_left];have e2:List.replicate (q+5) v=List.replicate q v++[v,v,v,v,v]:=by rw [<-List.replicate_append_replicate];rfl
    rw [e2,aa_];rfl
   rw [<-e];exact z.2.2.1
  | [],h3,_=>simp at h3;omega
  | [_],h3,_=>simp at h3;omega
  | [_,_],h3,_=>simp at h3;omega
  | [_,_,_],h3,_=>simp at h3;omega
  | [_,_,_,_],h3,_=>simp at h3;omega
theorem KT.list {Q:W_->Prop} {m:Int} {v2 u:V_} {k:Nat} (h:KT Q gd ao cap i v m jh jb k k' xs ys W) (hQ:Cg gd ao jh Cv Q) (hg:W.grownBy W' jh.ownBlock) (ho:W'.ownsRow gd 72 1 v2 (k+1) (xs++[u])) :
  KT Q gd ao cap i v m v2 jb (k+1) k' (xs++[u]) ys (W'.setCell (a_ gd 4) v2):=by
 have d1:=fK h.l h.d (by decide) hg;have hs:=gs_ W' gd 4 v2;refine⟨hQ.drawer _ _ _ _ (hQ.lists _ _ _ _ h.q h.l hg) d1,cO d1 4 v2,h.t.jy (fun _ _ _ b=>?_),dM ho d1 (by decide) hs,dM (fC h.n h.l (by decide) hg) d1 (by decide) hs⟩;have b1:=fK h.l b (by decide) hg;exact dB b1 (T.iB b1 d1 (by decide)) _ _
theorem KT.num {Q:W_->Prop} {m:Int} {v2 u:V_} {k:Nat} (h:KT Q gd ao cap i v m jh jb k k' xs ys W) (hQ:Cg gd ao Rm jb Q) (hg:W.grownBy W' jb.ownBlock) (ho:W'.ownsRow gd 3 1 v2 (k'+1) (ys++[u])) :
  KT Q gd ao cap i v m jh v2 k (k'+1) xs (ys++[u]) (W'.setCell (a_ gd 8) v2):=by
 have d1:=fK h.n h.d (by decide) hg;have hs:=gs_ W' gd 8 v2;refine⟨hQ.drawer _ _ _ _ (hQ.numbers _ _ _ _ h.q h.n hg) d1,cO d1 8 v2,h.t.jy (fun _ _ _ b=>?_),dM (fC h.l h.n (by decide) hg) d1 (by decide) hs,dM ho d1 (by decide) hs⟩;have b1:=fK h.n b (by decide) hg;exact dB b1 (T.iB b1 d1 (by decide)) _ _
def abb (Q:W_->Prop) (gd:Nat) (ao:Option Addr) (cap:Nat) (m:Int) (k k':Nat) (xs ys:List V_) (Cv:V_) (e:Ending) (w':W_):Prop:=
 e=.returned (.tuple #[])/\∃jh jb,KT Q gd ao cap cap (I_ m) m jh jb k k' xs ys w'/\∀b,jb.ownBlock=some b->Cv.ownBlock=some b\/∃W,Q W/\W.heap.size<=b
end Go.Proofs.YtmccnmgaoppogaaGreat
