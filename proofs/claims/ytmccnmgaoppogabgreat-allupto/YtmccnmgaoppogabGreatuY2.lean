import Derived.Test.YtmccnmgaoppogabGreatuKbm
namespace Go.Proofs.YtmccnmgaoppogabGreat
open Pu
set_option linter.all false
open Go.Proofs.Tryz Tryz
set_option maxRecDepth 100000
set_option maxHeartbeats 8000000
open Go.RowKit
structure UR(f:Nat->Int)(gr gs g0 go:Nat)(E:bI)(z:oU)(rest:List V_)(C:bJ)(iJ iD:V_)(w:W_)(D:bJ)(W:W_):Prop where
 r:qJ E C D
 sta:wY E f D
 err:D.err=0
 pos:D.pos=C.pos
 m:RM W gr gs E z rest D iJ iD
 gr':w.grownBy W (some gr)
 o:dh W go 232 (Ue false 0 D.rule D.marked)
 res:dh W g0 232 (Ue false 0 0 0)
 n0:w.heap.size<=g0
 n1:w.heap.size<=go
 n2:g0≠go
 n3:gr<w.heap.size
 n4:gs<w.heap.size
section
variable {f:Nat->Int} {gr gs g0 go:Nat} {E:bI} {z:oU} {rest:List V_} {C:bJ} {iJ iD:V_} {w:W_} {D F:bJ} {W:W_}
theorem UR.alloc(h:UR f gr gs g0 go E z rest C iJ iD w D W)(o:Obj):UR f gr gs g0 go E z rest C iJ iD w D (W.alloc o):=
 ⟨h.r,h.sta,h.err,h.pos,h.m.alloc o,jY h.gr' o,cO h.o o,cO h.res o,h.n0,h.n1,h.n2,h.n3,h.n4⟩
theorem UR.drewN(h:UR f gr gs g0 go E z rest C iJ iD w D W)(n:Nat):UR f gr gs g0 go E z rest C iJ iD w D (W.drewN n):=
 ⟨h.r,h.sta,h.err,h.pos,h.m.drewN n,lu h.gr' n,h.o,h.res,h.n0,h.n1,h.n2,h.n3,h.n4⟩
theorem Dh{V:W_}{b:Nat}(a:w.grownBy V (some gr))(e:w.heap.size<=b)(j:Nat)(u:V_):w.grownBy (V.setCell (a_ b j) u) (some gr):=
 ⟨a.1,a.2,a.3,by have:=a.size;simpa [World.setCell]using this,fun k d c=>by rw[Below.heap_setCell _ _ _ _ (by show k≠b;omega)];exact a.block k d c⟩
theorem UR.next(h:UR f gr gs g0 go E z rest C iJ iD w D W)(a:Pu.Good E f)(i:C.pos<E.s.size)(c:Pu.look E D=.go F)
  (d:(jO gs z D iJ iD).set 6 (I_ (D.steps+1))=jO gs z F iJ iD) (g:F.rule=D.rule) (e:F.marked=D.marked) :
  ((E.s.size+1)*Pu.rM E-F.steps).toNat<((E.s.size+1)*Pu.rM E-D.steps).toNat/\UR f gr gs g0 go E z rest C iJ iD w F (W.setCell (a_ gr 6) (I_ (D.steps+1))):=by
 have q:=ze a h.sta h.err c;have b:=q.1.bound a;have j:=h.n0;have n1:=h.n1;have k:=h.n3;refine⟨by rw[q.2.2.2.1]at b |-;omega,.step h.r ?_,q.1,q.2.1,q.2.2.1.trans h.pos,h.m.set 6 _ d,eU h.gr' _ _,by rw[g,e];exact bU h.o o_ _ _,bU h.res o_ _ _,h.n0,h.n1,h.n2,h.n3,h.n4⟩;unfold zQ;have:=h.err;have:=h.pos;rw[if_neg o_,c]
theorem UR.back(h:UR f gr gs g0 go E z rest C iJ iD w D W){V:W_}{X:bJ}(q:RM V gr gs E z rest X iJ iD)(e:w.grownBy V (some gr))(i:dh V g0 232 (Ue false 0 0 0))(a b c d:V_) :
  RM ((((V.setCell (a_ g0 0) a).setCell (a_ g0 1) b).setCell (a_ g0 2) c).setCell (a_ g0 3) d) gr gs E z rest X iJ iD/\w.grownBy ((((V.setCell (a_ g0 0) a).setCell (a_ g0 1) b).setCell (a_ g0 2) c).setCell (a_ g0 3) d) (some gr)/\dh ((((V.setCell (a_ g0 0) a).setCell (a_ g0 1) b).setCell (a_ g0 2) c).setCell (a_ g0 3) d) g0 232 [a,b,c,d]:=by
 have v:=h.n0;have x:=h.n3;have y:=h.n4;have l:=cK i 0 a;have n:=cK l 1 b;have p:=cK n 2 c;have r:=q.o i d_ d_ d_ o_ o_ 0 a;have s:=r.o l d_ d_ d_ o_ o_ 1 b;have t:=s.o n d_ d_ d_ o_ o_ 2 c;refine⟨t.o p d_ d_ d_ o_ o_ 3 d,?_,cK p 3 d⟩;have st:∀(V:W_) (j:Nat) (u:V_),w.grownBy V (some gr)->w.grownBy (V.setCell (a_ g0 j) u) (some gr):=fun V j u e=>
  ⟨e.1,e.2,e.3,by have:=e.size;simpa [World.setCell]using this,fun k j g=>by rw[Below.heap_setCell _ _ _ _ (by show k≠g0;omega)];exact e.block k j g⟩
 exact st _ _ _ (st _ _ _ (st _ _ _ (st _ _ _ e)))
end
theorem Bd{W:W_}{g:Nat}{a b c d:V_}{A:Act}{Q:Ending->W_->Prop}(j:A.tmps.getD 2 undef=p_ g)(e:A.defers=[])(h:dh W g 232 [a,b,c,d])(i:Q (.returned (.agg #[a,b,c,d])) W) :
  bodyPost prog f118 Q .ret A W:=by
 refine br_ (v:=.agg #[a,b,c,d]) ?_ e i;rw[ry results118,j];exact run_loadVar_row W g 232 232 #[a,b,c,d] (0,0) _ h underlying232 rfl Dy
theorem agK{s:Y_}{n:Nat}(h:n<s.size):wrap64 ((s[n]'h).toNat:Int)=bt s n:=by
 have e:bt s n=((s[n]'h).toNat:Int):=by have a:n<s.data.size:=h;unfold bt;rw[gd_,gg_ (by simpa using a)];rfl
 rw[<-e];have:=iM s n;unfold wrap64;omega
theorem Qa(f:Nat->Int)(gr gs:Nat)(E:bI)(ve O vc:V_)(rest:List V_)(C:bJ)(iJ iD:V_)(w:W_)(gd:Pu.Good E f)(h:wY E f C)(he:C.err=0)(s:C.pos<E.s.size)(hs:E.s.size<=1099511627776)(m:RM w gr gs E (ZI ve O vc) rest C iJ iD)
  (d:C.ins=Pu.aU E.p.ents C.mode.toNat/\C.c=0/\C.looked=0/\C.rule=0/\C.marked=0) :
  Calls prog 118 #[p_ gr] w (qo gr gs E (ZI ve O vc) rest C iJ iD w):=by
 obtain⟨⟨ge,ce,rfl,he1,he2⟩,-,⟨T,cc,rfl,hc1,hc2⟩⟩:=m.l.rT.Qs gd.right;have e:=h.mode;obtain⟨U,a⟩:=Int.eq_ofNat_of_zero_le e.1;have hml:U<E.p.ents.length:=o_;have hmi:(U:Int)<E.p.ents.length:=o_;have aW:=EH m.l.rT.e hml;have B:=bQ 0 m.fB rfl;have i:=bQ 4 m.fB (u:=I_ U) (by rw[<-a];rfl);have j:=bQ 0 m.scn rfl;have b:Pu.aU E.p.ents U=C.ins:=by rw[d.1,a];rfl
 rw[b]at aW;have lr:=bP m.fB;have ls:=bP m.scn;have le:=(iN m.l.rT.e).2;have S0:Hid (∀nq,UR f gr gs w.heap.size (w.heap.size+1) E (ZI (s_ ge E.p.ents.length ce) O (s_ T E.p.code.length cc)) rest C iJ iD w C (((w.alloc (c_ #[.bool false,I_ 0,I_ 0,I_ 0] 232)).alloc (c_ #[.bool false,I_ 0,I_ 0,I_ 0] 232)).drewN nq)):=fun nq=>by
  have g:=hn_ (w.alloc (c_ #[.bool false,I_ 0,I_ 0,I_ 0] 232)) (c_ #[.bool false,I_ 0,I_ 0,I_ 0] 232);rw[wa_]at g;refine⟨.refl _,h,he,rfl,((m.alloc _).alloc _).drewN nq,lu (jY (jY (World.grownBy.refl _ _) _) _) nq,?_,?_,dF,o_,o_,lr,ls⟩
  .rw [d.2.2.2.1,d.2.2.2.2];exact g
  .exact cO (hn_ _ _) _
 have HF:=bL (And.intro d.2.1 d.2.2.1);have GD:=bL gd;have A:Hid (C.pos<E.s.size):=s;have I:gr≠w.heap.size:=o_;have uC:gr≠w.heap.size+1:=o_;have Ij:gs≠w.heap.size:=o_;have J:gs≠w.heap.size+1:=o_;have K:ge≠w.heap.size:=o_;have g:ge≠w.heap.size+1:=o_;clear h he m gd s d b a e;go_in;go_wp2_with fail;go_quiet (fail);clear aW B i j;have a:=bL (S0.o nq);clear S0 I uC Ij J K g;go_wp2_with fail;generalize ((w.alloc (c_ #[.bool false,I_ 0,I_ 0,I_ 0] 232)).alloc (c_ #[.bool false,I_ 0,I_ 0,I_ 0] 232)).drewN nq=W0 at *;generalize w.heap.size+1=go at *;generalize hg0:w.heap.size=g0 at *;go_loopg [4,5,6] ((E.s.size+1)*Pu.rM E-C.steps).toNat (fun gk e lv b wr=>∃D,e=I_ D.ins/\lv=I_ D.looked/\b=I_ D.c/\gk=((E.s.size+1)*Pu.rM E-D.steps).toNat/\UR f gr gs g0 go E (ZI (s_ ge E.p.ents.length ce) O (s_ T E.p.code.length cc)) rest C iJ iD w D wr);exact⟨C,rfl,by rw[HF.o.2],by rw[HF.o.1],rfl,a.o⟩;clear a;obtain⟨D,rfl,rfl,rfl,rfl,b⟩:=hrel;have a:=bL b;have l:=b.sta.ins;have i:=(b.sta.live b.err).1;have hlk:=b.sta.looked;have hcc:=b.sta.c;have hstp:=b.sta.steps.1;have anq:=b.sta.Dz GD.o hs;have hwi:=b.sta.within;have hp0:=b.sta.pos;have n1':=GD.o.n1;have m1:=GD.o.most;obtain⟨k,e⟩:=Int.eq_ofNat_of_zero_le l.1;have hk1:k<E.p.code.length:=o_;have hk2:(k:Int)<E.p.code.length:=o_;have q:=VG b.m.l.rT.c hk1;have aW:=q.1;have q1:=q.2.1;have q2:=q.2.2.1;have q3:=q.2.2.2;have clt:=(iN b.m.l.rT.c).2;have rlt:=bP b.m.fB;have slt:=bP b.m.scn;have olt:=bP b.o;have zlt:=bP b.res;have B:=bQ 0 b.m.fB rfl;have c1:=bQ 1 b.m.fB rfl;have R:=bQ 6 (u:=I_ D.steps) b.m.fB rfl;have S:=bM b.m.fB 6;have s2:=bQ 2 b.m.scn rfl;have s6:=bQ 6 b.m.scn rfl;have ok:=GD.o.abq hk1;have g:=GD.o.next hk1;have I:wr.heap.size≠gr:=o_;have uC:wr.heap.size≠gs:=o_;have Ij:wr.heap.size≠T:=o_;have J:wr.heap.size≠go:=o_;have K:wr.heap.size≠g0:=o_;have II:gr≠wr.heap.size:=o_;have Tq:go≠wr.heap.size:=o_;have ne5':g0≠wr.heap.size:=o_;have HK:=bL e;have p:Hid (D.ins.toNat=k):=by show _=_;rw[e];rfl
 rw[e];unfold qm at ok;generalize j:Pu.aO E.p.code k=x at *;have r:=bL j;clear j q b l i e;by_cases o4:x.op=4
 .have n:0<=x.bH/\x.bH<E.p.code.length:=o_;have e:Hid (Pu.look E D=.go { D with steps:=D.steps+1,ins:=x.bH }):=by show _=_;unfold Pu.look;rw[p.o,r.o];simp[o4]
  rw[o4]at aW;clear ok g;go_wp2;obtain⟨i,j⟩:=a.o.next GD.o A.o e.o rfl rfl rfl;go_roundg ((E.s.size+1)*Pu.rM E-(D.steps+1)).toNat
  exact⟨{ D with steps:=D.steps+1,ins:=x.bH },rfl,rfl,rfl,rfl,j.alloc _⟩;exact i
 by_cases Z:x.op=3
 .rw [Z]at aW;have nn:=g o_;have n:0<=x.bH/\x.bH<E.p.code.length:=o_;clear g ok;by_cases b:x.a<=D.c/\D.c<=x.b
  .have e:Hid (Pu.look E D=.go { D with steps:=D.steps+1,ins:=x.bH }):=by show _=_;unfold Pu.look;rw[p.o,r.o];simp[Z,b.1,b.2]
   have l:=b.1;have q:=b.2;clear b;go_wp2;obtain⟨i,j⟩:=a.o.next GD.o A.o e.o rfl rfl rfl;go_roundg ((E.s.size+1)*Pu.rM E-(D.steps+1)).toNat
   exact⟨{ D with steps:=D.steps+1,ins:=x.bH },rfl,rfl,rfl,rfl,j.alloc _⟩;exact i
  .have e:Hid (Pu.look E D=.go { D with steps:=D.steps+1,ins:=D.ins+1 }):=by show _=_;unfold Pu.look;rw[p.o,r.o];simp only[Z];rw[if_neg d_,if_neg d_,if_pos True.intro,if_neg b]
   have G:Hid ((k:Int)+1=D.ins+1):=by show _=_;rw[HK.o]
   by_cases i:x.a<=D.c;have l:decide (D.c<=x.b)=false:=dn_ (fun h=>b ⟨i,h⟩);clear b;rotate_left;focus
    have l:decide (x.a<=D.c)=false:=dn_ i;clear b i
   all_goals
    go_wp2;obtain⟨i,j⟩:=a.o.next GD.o A.o e.o rfl rfl rfl;go_roundg ((E.s.size+1)*Pu.rM E-(D.steps+1)).toNat
    exact⟨{ D with steps:=D.steps+1,ins:=D.ins+1 },by rw[G.o],rfl,rfl,rfl,j.alloc _⟩;exact i
 have k0:=bQ 0 a.o.o rfl;have k1:=bQ 1 a.o.o rfl;have k2:=bQ 2 a.o.o rfl;have k3:=bQ 3 a.o.o rfl;have y0:=bQ 0 a.o.res rfl;have y1:=bQ 1 a.o.res rfl;have y2:=bQ 2 a.o.res rfl;have y3:=bQ 3 a.o.res rfl;have j0:=bM a.o.res 0;have j1:=bM a.o.res 1;have j2:=bM a.o.res 2;have j3:=bM a.o.res 3;have L:go≠gr:=by have:=a.o.n1;have:=a.o.n3;omega
 have q:g0≠gr:=by have:=a.o.n0;have:=a.o.n3;omega
 have n:g0≠go:=a.o.n2;have ngg':go≠g0:=fun e=>n e.symm;by_cases o5:x.op=5
 .have e:Hid (Pu.look E D=.stop { D with steps:=D.steps+1,ins:=D.ins+1 } 0):=by show _=_;unfold Pu.look;rw[p.o,r.o];simp[o5]
  rw[o5]at aW;clear ok g;have l:=a.o.m.set 6 (I_ (D.steps+1)) (D:={ D with steps:=D.steps+1,ins:=D.ins+1 }) (QG:=iJ) (Ej:=iD) rfl;have i:=bL (a.o.back l (eU a.o.gr' _ _) (bU a.o.res q _ _) (.bool false) (I_ 0) (I_ D.rule) (I_ D.marked));clear l;go_wp2;generalize ((((wr.setCell (a_ gr 6) (I_ (D.steps+1))).setCell (a_ g0 0) (.bool false)).setCell (a_ g0 1) (I_ 0)).setCell (a_ g0 2) (I_ D.rule)).setCell (a_ g0 3) (I_ D.marked)=V at *;exact Bd rfl rfl (cO i.o.2.2 _) ⟨D,a.o.r,a.o.err,a.o.pos,jY i.o.2.1 _,.inr ⟨{ D with steps:=D.steps+1,ins:=D.ins+1 },0,rfl,e.o,i.o.1.alloc _⟩⟩
 have RY:=bM a.o.o 2;have fo3:=bM a.o.o 3;have t:=bM a.o.o 0;have v:=bM a.o.o 1;have G:Hid ((k:Int)+1=D.ins+1):=by show _=_;rw[HK.o]
 by_cases Q:x.op=1
 .rw [Q]at aW;have nn:=g o_;clear g;by_cases b:0<D.looked
  .have e:Hid (Pu.look E D=.go { D with steps:=D.steps+1,ins:=D.ins+1,rule:=x.a,marked:=D.looked }):=by show _=_;unfold Pu.look;rw[p.o,r.o];simp[Q,b]
   have q':=ze GD.o a.o.sta a.o.err e.o;have bq:=q'.1.bound GD.o;have N:=cK (cK a.o.o 2 (I_ x.a)) 3 (I_ D.looked);have n1:=a.o.n1;have X:=a.o.n3;have Y:=a.o.n4;have l:=a.o.m.o a.o.o d_ d_ d_ o_ o_ 2 (I_ x.a);have i:=l.o (cK a.o.o 2 (I_ x.a)) d_ d_ d_ o_ o_ 3 (I_ D.looked);have y:=i.set 6 (I_ (D.steps+1)) (D:={ D with steps:=D.steps+1,ins:=D.ins+1,rule:=x.a,marked:=D.looked }) (QG:=iJ) (Ej:=iD) rfl;have st:∀(V:W_) (j:Nat) (u:V_),w.grownBy V (some gr)->w.grownBy (V.setCell (a_ go j) u) (some gr):=fun V j u H=>
    ⟨H.1,H.2,H.3,by have:=H.size;simpa [World.setCell]using this,fun k' j V=>by rw[Below.heap_setCell _ _ _ _ (by show k'≠go;omega)];exact H.block k' j V⟩
   have V:Hid (UR f gr gs g0 go E (ZI (s_ ge E.p.ents.length ce) O (s_ T E.p.code.length cc)) rest C iJ iD w { D with steps:=D.steps+1,ins:=D.ins+1,rule:=x.a,marked:=D.looked } (((wr.setCell (a_ go 2) (I_ x.a)).setCell (a_ go 3) (I_ D.looked)).setCell (a_ gr 6) (I_ (D.steps+1)))):=
    ⟨.step a.o.r (by unfold zQ;have:=a.o.err;have:=a.o.pos;have:=A.o;rw[if_neg o_,e.o]),q'.1,q'.2.1,a.o.pos,y,eU (st _ _ _ (st _ _ _ a.o.gr')) _ _,bU N L _ _,bU (bU (bU a.o.res n _ _) n _ _) q _ _,a.o.n0,a.o.n1,a.o.n2,a.o.n3,a.o.n4⟩
   have j:((E.s.size+1)*Pu.rM E-(D.steps+1)).toNat<((E.s.size+1)*Pu.rM E-D.steps).toNat:=by have:D.steps+1<=(E.s.size+1)*Pu.rM E:=bq;omega
   clear q' bq N l i y st ok;go_wp2;go_roundg ((E.s.size+1)*Pu.rM E-(D.steps+1)).toNat
   exact⟨{ D with steps:=D.steps+1,ins:=D.ins+1,rule:=x.a,marked:=D.looked },by rw[G.o],rfl,rfl,rfl,V.o.alloc _⟩;exact j
  .have e:Hid (Pu.look E D=.go { D with steps:=D.steps+1,ins:=D.ins+1 }):=by show _=_;unfold Pu.look;rw[p.o,r.o];simp[Q,b]
   have l:decide ((0:Int)<D.looked)=false:=dn_ b;clear ok;go_wp2;obtain⟨i,j⟩:=a.o.next GD.o A.o e.o rfl rfl rfl;go_roundg ((E.s.size+1)*Pu.rM E-(D.steps+1)).toNat
   exact⟨{ D with steps:=D.steps+1,ins:=D.ins+1 },by rw[G.o],rfl,rfl,rfl,j.alloc _⟩;exact i
 have b:x.op=2:=o_;rw[b]at aW;have nn:=g o_;have N:=bL b;clear g ok Q Z o4 o5 b t v RY fo3 j0 j1 j2 j3 y0 y1 y2 y3 k0 k1 k2 k3 S;go_wp2_with fail;go_quiet ((go_at_call 138;exact Calls.quiet_of_same (PD gs E _ rest D.pos D.looked _ (cO a.o.m.scn _) o_ o_ hs)));have b:=bL ((a.o.alloc (c_ #[I_ 2,I_ x.a,I_ x.b,I_ x.bH] 50)).drewN nq);clear B c1 R s2 s6 aW q1 q2 q3 a clt rlt slt olt zlt;generalize (wr.alloc (c_ #[I_ 2,I_ x.a,I_ x.b,I_ x.bH] 50)).drewN nq=Q at *;have B:=bQ 0 b.o.m.fB rfl;have c1:=bQ 1 b.o.m.fB rfl;have R:=bQ 6 (u:=I_ D.steps) b.o.m.fB rfl;have S:=bM b.o.m.fB 6;have s6:=bQ 6 b.o.m.scn rfl;have k0:=bQ 0 b.o.o rfl;have k1:=bQ 1 b.o.o rfl;have k2:=bQ 2 b.o.o rfl;have k3:=bQ 3 b.o.o rfl;have y0:=bQ 0 b.o.res rfl;have y1:=bQ 1 b.o.res rfl;have y2:=bQ 2 b.o.res rfl;have y3:=bQ 3 b.o.res rfl;have j0:=bM b.o.res 0;have j1:=bM b.o.res 1;have j2:=bM b.o.res 2;have j3:=bM b.o.res 3;have t:=bM b.o.o 0;have v:=bM b.o.o 1;have y:=bL (And.intro b.o.n1 (And.intro b.o.n3 b.o.n4));by_cases g:(E.s.size:Int)<=D.pos+D.looked
 .cases hE:E.ended
  .have a:nx E D.pos D.looked=1:=by unfold nx;rw[if_neg o_,hE];rfl
   have e:Hid (Pu.look E D=.wait):=by show _=_;unfold Pu.look;rw[p.o,r.o];simp[N.o,g,hE]
   have n1:=y.o.1;have X:=y.o.2.1;have Y:=y.o.2.2;have l:=b.o.m.o b.o.o d_ d_ d_ o_ o_ 0 (.bool true);have i:=bL (b.o.back l (Dh b.o.gr' n1 _ _) (bU b.o.res n _ _) (.bool true) (I_ 0) (I_ D.rule) (I_ D.marked));clear l hE n1 X Y;rw[a];clear a;go_wp2;generalize ((((Q.setCell (a_ go 0) (.bool true)).setCell (a_ g0 0) (.bool true)).setCell (a_ g0 1) (I_ 0)).setCell (a_ g0 2) (I_ D.rule)).setCell (a_ g0 3) (I_ D.marked)=V at *;exact Bd rfl rfl i.o.2.2 ⟨D,b.o.r,b.o.err,b.o.pos,i.o.2.1,.inl ⟨rfl,e.o,i.o.1⟩⟩
  .have a:nx E D.pos D.looked=2:=by unfold nx;rw[if_neg o_,hE];rfl
   have e:Hid (Pu.look E D=.stop { D with steps:=D.steps+1,ins:=D.ins+1 } 0):=by show _=_;unfold Pu.look;rw[p.o,r.o];simp[N.o,g,hE]
   have l:=b.o.m.set 6 (I_ (D.steps+1)) (D:={ D with steps:=D.steps+1,ins:=D.ins+1 }) (QG:=iJ) (Ej:=iD) rfl;have i:=bL (b.o.back l (eU b.o.gr' _ _) (bU b.o.res q _ _) (.bool false) (I_ 0) (I_ D.rule) (I_ D.marked));clear l hE;rw[a];clear a;go_wp2;generalize ((((Q.setCell (a_ gr 6) (I_ (D.steps+1))).setCell (a_ g0 0) (.bool false)).setCell (a_ g0 1) (I_ 0)).setCell (a_ g0 2) (I_ D.rule)).setCell (a_ g0 3) (I_ D.marked)=V at *;exact Bd rfl rfl i.o.2.2 ⟨D,b.o.r,b.o.err,b.o.pos,i.o.2.1,.inr ⟨{ D with steps:=D.steps+1,ins:=D.ins+1 },0,rfl,e.o,i.o.1⟩⟩
 by_cases j:D.looked=E.most
 .have a:nx E D.pos D.looked=3:=by unfold nx;rw[if_pos o_,if_pos j]
  have e:Hid (Pu.look E D=.stop { D with steps:=D.steps+1,ins:=D.ins+1 } 5):=by
   show _=_;unfold Pu.look;rw[p.o,r.o];have i:E.most<=D.looked:=o_;simp[N.o,g,i]
  have n1:=y.o.1;have X:=y.o.2.1;have Y:=y.o.2.2;have l:=b.o.m.set 6 (I_ (D.steps+1)) (D:={ D with steps:=D.steps+1,ins:=D.ins+1 }) (QG:=iJ) (Ej:=iD) rfl;have V:=l.o (bU b.o.o L _ _) d_ d_ d_ o_ o_ 1 (I_ 5);have i:=bL (b.o.back V (Dh (eU b.o.gr' _ _) n1 _ _) (bU (bU b.o.res q _ _) n _ _) (.bool false) (I_ 5) (I_ D.rule) (I_ D.marked));clear l V j n1 X Y;rw[a];clear a;go_wp2;generalize (((((Q.setCell (a_ gr 6) (I_ (D.steps+1))).setCell (a_ go 1) (I_ 5)).setCell (a_ g0 0) (.bool false)).setCell (a_ g0 1) (I_ 5)).setCell (a_ g0 2) (I_ D.rule)).setCell (a_ g0 3) (I_ D.marked)=V at *;exact Bd rfl rfl i.o.2.2 ⟨D,b.o.r,b.o.err,b.o.pos,i.o.2.1,.inr ⟨{ D with steps:=D.steps+1,ins:=D.ins+1 },5,rfl,e.o,i.o.1⟩⟩
 have a:nx E D.pos D.looked=0:=by unfold nx;rw[if_pos o_,if_neg j]
 have e:Hid (Pu.look E D=.go { D with steps:=D.steps+1,ins:=D.ins+1,c:=bt E.s (D.pos+D.looked).toNat,looked:=D.looked+1 }):=by
  show _=_;unfold Pu.look;rw[p.o,r.o];have i:¬E.most<=D.looked:=o_;simp[N.o,g,i]
 obtain⟨l,i⟩:=Int.eq_ofNat_of_zero_le (o_:0<=D.pos+D.looked);have X:l<E.s.size:=o_;have Y:(l:Int)<E.s.size:=o_;have V:IntKind.i64.wrap (D.pos+D.looked)=(l:Int):=by rw[oD _ o_ o_,i]
 have Z:Hid ((D.pos+D.looked).toNat=l):=by show _=_;rw[i];rfl
 clear g j i;rw[a];clear a;go_wp2_with fail;go_quiet (fail);rw[agK X];clear B c1 R S s6 k0 k1 k2 k3 y0 y1 y2 y3 j0 j1 j2 j3 t v V;have g:=bL (b.o.drewN nq);generalize Q.drewN nq=t at *;have R:=bQ 6 (u:=I_ D.steps) g.o.m.fB rfl;have S:=bM g.o.m.fB 6;obtain⟨i,j⟩:=g.o.next GD.o A.o e.o rfl rfl rfl;have V:=bL j;have MS:=bL i;clear i j;generalize a:bt E.s l=j at *;have i:Hid (bt E.s (D.pos+D.looked).toNat=j):=by show _=_;rw[Z.o,a]
 clear a;go_wp2;go_roundg ((E.s.size+1)*Pu.rM E-(D.steps+1)).toNat
 exact⟨{ D with steps:=D.steps+1,ins:=D.ins+1,c:=bt E.s (D.pos+D.looked).toNat,looked:=D.looked+1 },by rw[G.o],rfl,by rw[i.o],rfl,V.o⟩;exact MS.o
end Go.Proofs.YtmccnmgaoppogabGreat
