import Derived.Test.YtmccnmgaoppogabGreatuKbo
namespace Go.Proofs.YtmccnmgaoppogabGreat
open Pu
set_option linter.all false
open Go.Proofs.Tryz Tryz
set_option maxRecDepth 100000
set_option maxHeartbeats 8000000
open Go.RowKit
def aiM(B:Nat)(f:W_)(a b:Nat)(E:bI)(z:oU)(rest:List V_)(C:bJ)(e:Ending)(w':W_):Prop:=
 e=.returned (.tuple #[])/\∃d c,TR B f a b E z rest C d c w'
theorem lG{w:W_}{base e size n:Nat}{v:V_}{xs:List V_}(h:w.ownsRow base e size v n xs):∃c a,v=.slice c n a/\n<=a/\a<=9223372036854775807:=by
 rcases h.2 with ⟨rfl,rfl⟩ | ⟨g,a,d,rfl,_,_,f,b,_⟩
 .exact⟨none,0,rfl,dF,o_⟩
 .exact⟨_,a,rfl,f,by unfold maxLen at b;exact b⟩
theorem take_set(l:List Int)(d:Nat)(x:Int)(h:d<l.length):(l.set d x).take (d+1)=l.take d++[x]:=by rw[List.take_add_one,List.take_set_of_le dF,List.getElem?_set_self h];rfl
theorem Vm(a b:Int):(a == b)=decide (a=b):=by
 by_cases h:a=b
 .simp [h]
 .rw [dn_ h];simpa using h
theorem gD{w:W_}{g b t c:Nat}{xs ys:List V_}(h:dh w g t xs)(a:dh w b c ys)(d:t≠c):g≠b:=by intro e;subst e;unfold dh at h a;rw[h]at a;simp at a;exact d a.2
theorem acO(f:Nat->Int)(B:Nat)(w0:W_)(b gs:Nat)(E:bI)(z:oU)(rest:List V_)(C:bJ)(iJ V:V_)(w:W_)(gd:Pu.Good E f)(J:Q7 E C)(hm:0<C.marked)(he:C.err=0)(hs:E.s.size<=1099511627776)(h:TR B w0 b gs E z rest C iJ V w) :
  Calls prog 119 #[p_ b,I_ C.rule,I_ C.marked] w (aiM B w0 b gs E z rest (Pu.take E C 0)):=by
 obtain⟨aS,hi,hz0,hz1,hz2⟩:=ip_ info67;obtain⟨i3,hi3,Zx,h31,h32⟩:=ip_ info3;obtain⟨k,r⟩:=Int.eq_ofNat_of_zero_le J.rule.1;obtain⟨n,x⟩:=Int.eq_ofNat_of_zero_le J.marked.1;obtain⟨dn,a⟩:=Int.eq_ofNat_of_zero_le J.jy.1;obtain⟨p,U⟩:=Int.eq_ofNat_of_zero_le J.pos;obtain⟨ao,cp,rfl,hc1,hc2⟩:=lG h.st;have hkr:k<E.p.rules.length:=by have:=J.rule.2;omega
 have hn0:0<n:=o_;have hd8:dn<=8:=by have:=J.jy.2;have:=gd.depth;omega
 have hwi:p+n<=E.s.size:=by have:=J.within;have:=J.marked;omega
 have e:C.jy.toNat=dn:=o_;have q:=bL (fun W m=>P9 b gs E z rest C (.slice ao C.jy.toNat cp) V k W gd.right m hkr);have i:=bL h;have GD:=bL gd;have X:=bL J;have HE:=bL he;have g:Hid (C.rule=k/\C.marked=n/\C.jy=dn/\C.pos=p):=⟨r,x,a,U⟩;have ok:=gd.right.2.1.2 k hkr;rw[r,x];clear h gd J he r x hm U a;rw[e]at q i hc1;clear e;generalize a:Pu.rg E.p.rules k=r at *;have HR:=bL a;clear a;go_in;go_wp2_with fail;refine (q.o _ i.o.m).mono ?_;clear q;rintro e w1 ⟨rfl,a⟩;unfold J8;have y:=bL ((i.o.below a).alloc (c_ #[I_ r.emit,I_ r.act,I_ r.mode] 48));have A:Hid (dh (w1.alloc (c_ #[I_ r.emit,I_ r.act,I_ r.mode] 48)) w1.heap.size 48 [I_ r.emit,I_ r.act,I_ r.mode]):=hn_ _ _;have hxB:B<=w1.heap.size:=(i.o.below a).sz;clear i a;go_wp2_with fail;generalize w1.alloc (c_ #[I_ r.emit,I_ r.act,I_ r.mode] 48)=W1 at *;generalize w1.heap.size=gx at *;have H:=bQ 1 A.o rfl;have c0:=bQ 0 y.o.m.fB rfl;have c5:=bQ 5 y.o.m.fB rfl;have G:=bQ 5 y.o.m.scn rfl;go_cut [29] from 9 (fun F a=>F=.bool (decide (r.act=2/\(dn:Int)=E.depth))/\∃nq,a=W1.drewN nq)
 case first=>
  by_cases x:r.act=2
  .rw [x]at H;go_quiet (fail);go_wp2;go_meet;case rel=>exact⟨by simp[x,Vm],_,rfl⟩
  .have d1:(r.act == 2)=false:=by simpa using x
   go_quiet (fail);go_wp2;go_meet;case rel=>exact⟨by simp[x],_,rfl⟩
 case rest=>
  obtain⟨rfl,nq,rfl⟩:=hcut;have i:=bL (y.o.drewN nq);have q:Hid (dh (W1.drewN nq) gx 48 [I_ r.emit,I_ r.act,I_ r.mode]):=A.o;clear H c0 c5 G y A;generalize W1.drewN nq=W2 at *;have H:=bQ 1 q.o rfl;have c5:=bQ 5 i.o.m.fB rfl;have I:=bQ 8 i.o.m.fB rfl;have K:=bM i.o.m.fB 8;by_cases A:r.act=2/\(dn:Int)=E.depth
  .have y:Hid (Pu.take E C 0={ C with err:=6 }):=by
    show _=_;have z:Pu.wrong E.p E.depth C=6:=by unfold Pu.wrong;rw[if_neg (by have:=g.o.2.1;omega),g.o.1,tn_,HR.o,if_pos ⟨A.1,by have:=g.o.2.2.1;omega⟩]
    unfold Pu.take;rw[if_neg o_,z,if_pos o_]
   have a:=bL (i.o.set 8 (I_ 6) (D:={ C with err:=6 }) rfl rfl rfl rfl);rw[dt_ A];clear A;go_wp2;exact br_ (v:=.tuple #[]) (by simp[results,results119,go_sem]) rfl ⟨rfl,_,_,by rw[y.o];exact a.o⟩
  rw[dn_ A];go_upto_region 3 with (fail);go_cut [43] from 9 (fun F a=>F=.bool (decide (r.act=3/\dn=0))/\a=W2)
  case first=>
   by_cases F:r.act=3
   .rw [F]at H;go_wp2;go_meet;case rel=>exact⟨by simp[F,Vm],rfl⟩
   .have d1:(r.act == 3)=false:=by simpa using F
    go_wp2;go_meet;case rel=>exact⟨by simp[F],rfl⟩
  case rest=>
   obtain⟨rfl,rfl⟩:=hcut;by_cases G:r.act=3/\dn=0
   .have y:Hid (Pu.take E C 0={ C with err:=7 }):=by
     show _=_;have z:Pu.wrong E.p E.depth C=7:=by unfold Pu.wrong;rw[if_neg (by have:=g.o.2.1;omega),g.o.1,tn_,HR.o,if_neg o_,if_pos ⟨G.1,by have:=g.o.2.2.1;omega⟩]
     unfold Pu.take;rw[if_neg o_,z,if_pos o_]
    have a:=bL (i.o.set 8 (I_ 7) (D:={ C with err:=7 }) rfl rfl rfl rfl);rw[dt_ G];clear G;go_wp2;exact br_ (v:=.tuple #[]) (by simp[results,results119,go_sem]) rfl ⟨rfl,_,_,by rw[y.o];exact a.o⟩
   rw[dn_ G];have TK:Hid (Pu.take E C 0=Pu.took E.p E.s C):=by
    show _=_;have z:Pu.wrong E.p E.depth C=0:=by have y:=X.o.jy.2;have L:=g.o.2.2.1;unfold Pu.wrong;rw[if_neg (by have:=g.o.2.1;omega),g.o.1,tn_,HR.o,if_neg o_,if_neg o_]
    unfold Pu.take;rw[if_neg o_,z,if_neg o_]
   have T1:Hid (r.act=2->(dn:Int)<E.depth):=fun a=>by have y:=X.o.jy.2;have L:=g.o.2.2.1;omega
   have T2:Hid (r.act=3->0<dn):=fun a=>by omega
   clear A G H c5 I K;have x0:=bQ 0 q.o rfl;have G:gx≠b:=gD q.o i.o.m.fB d_;go_upto_if 49 with (fail);go_cut [] from 9 (fun a=>∃Ej,TR B w0 b gs E z rest { C with dU:=if r.emit=1 then C.dU++[⟨C.rule,C.pos,C.marked,C.line,C.iU⟩] else C.dU } (.slice ao dn cp) Ej a/\dh a gx 48 [I_ r.emit,I_ r.act,I_ r.mode])
   case first=>
    rcases ok.1 with hem | hem
    .rw [hem];go_wp2;go_meet;case rel=>exact⟨V,by rw[hem];exact i.o,q.o⟩
    .rw [hem];have c7:=bQ 7 i.o.m.fB rfl;have I:=bQ 1 i.o.m.fB (u:=I_ p) (by rw[<-g.o.2.2.2];rfl);have c2:=bQ 2 i.o.m.fB rfl;have c3:=bQ 3 i.o.m.fB rfl;have N:C.dU.length<=1099511627776:=by have:=X.o.dU;have:=g.o.2.2.2;omega
     have gl2:=bP i.o.m.fB;have hsz:=i.o.sz;have ne1:b≠wc.heap.size:=o_;have uC:wc.heap.size≠b:=o_;go_wp2_with fail;have S1:wc.drew.cell? (a_ b 1)=some (I_ p)/\wc.drew.cell? (a_ b 2)=some (I_ C.line)/\wc.drew.cell? (a_ b 3)=some (I_ C.iU):=⟨I,c2,c3⟩;refine wd_ (S:=fun a=>a.cell? (a_ b 1)=some (I_ p)/\a.cell? (a_ b 2)=some (I_ C.line)/\a.cell? (a_ b 3)=some (I_ C.iU)) k_ S1 (fun dK=>?_);refine cB 0 ?_;refine cB 1 ?_;refine cB 2 ?_;refine cB 3 ?_;refine cB 5 ?_;refine cB 6 ?_;refine cB 7 ?_;refine cB 8 ?_;refine cB 9 ?_;refine cB 10 ?_;refine cB 11 ?_;refine cB 12 ?_;refine cB 13 ?_;refine cB 14 ?_;refine cB 15 ?_;refine cB 16 ?_;refine cB 17 ?_;refine cB 18 ?_;refine cB 19 ?_;refine yz 4 20 (fun K a=>?_) (fun K a=>?_);all_goals
      go_simp;have A:=bL (i.o.alloc (c_ #[I_ k,I_ p,I_ n,I_ C.line,I_ C.iU] 67)).drew;have H:Hid (dh (wc.alloc (c_ #[I_ k,I_ p,I_ n,I_ C.line,I_ C.iU] 67)).drew gx 48 [I_ r.emit,I_ r.act,I_ r.mode]):=cO q.o _;have S2:(wc.alloc (c_ #[I_ k,I_ p,I_ n,I_ C.line,I_ C.iU] 67)).drew.cell? (a_ b 1)=some (I_ p)/\(wc.alloc (c_ #[I_ k,I_ p,I_ n,I_ C.line,I_ C.iU] 67)).drew.cell? (a_ b 2)=some (I_ C.line)/\(wc.alloc (c_ #[I_ k,I_ p,I_ n,I_ C.line,I_ C.iU] 67)).drew.cell? (a_ b 3)=some (I_ C.iU):=⟨bN (j:=1) A.o.m.fB (u:=I_ p) (by rw[<-g.o.2.2.2];rfl),bN (j:=2) A.o.m.fB rfl,bN (j:=3) A.o.m.fB rfl⟩
     refine a.out _ _ dK (fun gG=>?_);rotate_left;have R:=bQ 7 A.o.m.fB rfl;refine a.out _ _ S2 (fun gG=>?_);rotate_left;all_goals
      clear a K
      try simp only[Act.put,sb_,sz_,ss_]
     refine fF 20 (fun K a=>?_);rotate_left;focus refine fF 4 (fun K a=>?_)
     all_goals
      go_simp;refine a.out _ _ S2 (fun lT=>?_);clear a K
      try simp only[Act.put,sb_,sz_,ss_]
      refine fF 21 (fun K a=>?_);refine sa_ _ r_ _ _ _ r_ B 67 aS _ 5 40 underlying65 hi hz0 hz1 hz2 rfl o_ V C.dU.length (fw C.dU) r_ A.o.aZ (a_ wc.heap.size 0) 1 1 [I_ k,I_ p,I_ n,I_ C.line,I_ C.iU] r_ r_ (World.news_of_block (cs:=#[I_ k,I_ p,I_ n,I_ C.line,I_ C.iU]) (t:=67) (fr:=(0,0)) (hn_ _ _)) (by simp[Value.oneCell']) o_ (by unfold maxLen;omega) o_ (by simp;omega) (wc.heap.size+1) i_ ?_;intro Z Y w2 di Q iX kg;have y:=fq A.o.aZ A.o.m.fB d_ Q;have W:=cK y 7 (s_ Z (C.dU.length+1) Y);refine a.out _ _ ⟨bN (j:=1) y (u:=I_ p) (by rw[<-g.o.2.2.2];rfl),bN (j:=2) y rfl,bN (j:=3) y rfl⟩ (fun kT=>?_);have k7:=bQ 7 y rfl;have f7:=bM y 7;clear a K
      try simp only[Act.put,sb_]
      refine cB 22 ?_;refine cB 23 ?_;refine fF 24 (fun K a=>?_);go_simp;refine a.out _ _ ⟨bN (j:=1) W (u:=I_ p) (by rw[<-g.o.2.2.2];rfl),bN (j:=2) W rfl,bN (j:=3) W rfl⟩ (fun nX=>?_);clear a K;refine wpAnyH_done k_ ?_ _;have L:=bL (A.o.token (t:=⟨C.rule,C.pos,C.marked,C.line,C.iU⟩) Q (by rw[g.o.1,g.o.2.1,g.o.2.2.2];exact di));have O:=bL (bU (fq A.o.aZ H.o d_ Q) G 7 (s_ Z (C.dU.length+1) Y));clear kT nX y W k7 f7 di Q A H;generalize w2.setCell (a_ b 7) (s_ Z (C.dU.length+1) Y)=y at *;go_wp2;go_meet;case rel=>exact⟨_,by rw[hem,if_pos rfl];exact L.o,O.o⟩
   case rest=>
    obtain⟨Ej,s,T⟩:=hcut;generalize y:(if r.emit=1 then C.dU++[⟨C.rule,C.pos,C.marked,C.line,C.iU⟩] else C.dU)=R at *;have HT1:=bL y;have A:=bL s;have a:=bL T;clear s T y i q x0;go_wp2_with fail;go_loopg [7] n (fun gk q wr=>∃i:Nat,i<=n/\q=I_ i/\gk=n-i/\TR B w0 b gs E z rest { C with dU:=R,line:=(qO E.s p i (C.line,C.iU)).1,iU:=(qO E.s p i (C.line,C.iU)).2 } (.slice ao dn cp) Ej wr/\dh wr gx 48 [I_ r.emit,I_ r.act,I_ r.mode]);exact⟨0,zl_ _,rfl,rfl,A.o,a.o⟩;clear A a;obtain⟨i,a,rfl,rfl,s,T⟩:=hrel;have HT:=bL s;have HX:=bL T;have hL:=X.o.line;have hC:=X.o.iU;have U:=g.o.2.2.2;have hB:=KE E.s p i (C.line,C.iU) hL.1 hC.1;simp only at hB;rw[U]at hL hC;by_cases q:i<n;have c0:=bN (j:=0) s.m.fB rfl;have I:=bQ 1 s.m.fB (u:=I_ p) (by rw[<-U];rfl);have c2:=bQ 2 s.m.fB rfl;have c3:=bQ 3 s.m.fB rfl;have f2:=bM s.m.fB 2;have f3:=bM s.m.fB 3;have s6:=bQ 6 s.m.scn rfl;have hq1:p+i<E.s.size:=o_;have hq2:((p+i:Nat):Int)<E.s.size:=o_;have hw:IntKind.i64.wrap ((p:Int)+i)=((p+i:Nat):Int):=by rw[oD _ o_ o_];omega
    have x0:=fun w=>eB E.s ((p+i:Nat):Int) (p+i) rfl hq1 w;have EA:Hid (qO E.s p (i+1) (C.line,C.iU)=if bt E.s (p+i)=10 then ((qO E.s p i (C.line,C.iU)).1+1,1) else ((qO E.s p i (C.line,C.iU)).1,(qO E.s p i (C.line,C.iU)).2+1)):=rfl;clear s T U;rotate_left;focus
     have hin:i=n:=o_;subst hin;have AD:=bL (Eq.refl (qO E.s p i (C.line,C.iU)));have I:=bQ 1 s.m.fB (u:=I_ p) (by rw[<-U];rfl);have y:=bM s.m.fB 1;have H:=bQ 1 T rfl;have x2:=bQ 2 T rfl;have c4:=bQ 4 s.m.fB rfl;have f4:=bM s.m.fB 4;have c5:=bQ 5 s.m.fB rfl;have f5:=bM s.m.fB 5;have A:=bL (HT.o.set 1 (I_ (p+i)) (D:={ C with dU:=R,line:=(qO E.s p i (C.line,C.iU)).1,iU:=(qO E.s p i (C.line,C.iU)).2,pos:=p+i }) rfl rfl rfl rfl);clear s T U q a;go_upto_region 15 with (fail);have N:=bL (bU HX.o G 1 (I_ ((p:Int)+i)));have We:Hid (∀iJ V W,TR B w0 b gs E z rest { C with dU:=R,line:=(qO E.s p i (C.line,C.iU)).1,iU:=(qO E.s p i (C.line,C.iU)).2,pos:=p+i,mode:=gH r C,lN:=mI r C,jy:=ny r C } iJ V W->TR B w0 b gs E z rest (Pu.take E C 0) iJ V W):=fun iJ V W h=>by
      rw[TK.o];have e:Pu.took E.p E.s C={ C with dU:=R,line:=(qO E.s p i (C.line,C.iU)).1,iU:=(qO E.s p i (C.line,C.iU)).2,pos:=p+i,mode:=gH r C,lN:=mI r C,jy:=ny r C,ins:=Pu.aU E.p.ents (gH r C).toNat,c:=0,looked:=0,rule:=0,marked:=0,err:=0 }:=by unfold Pu.took;simp only;rw[<-HT1.o];rw[g.o.1,g.o.2.1,g.o.2.2.2];simp only[tn_,HR.o]
      rw[e];exact h.Pg (by unfold jO oU.st;simp only[HE.o]) rfl rfl rfl
     have DT:Hid (C.jy.toNat=dn):=by show _=_;have:=g.o.2.2.1;omega
     have stl:=X.o.lN.1;clear I y H x2 c4 f4 c5 f5 HT HX;generalize wr.setCell (a_ b 1) (I_ ((p:Int)+i))=I at *
    rotate_left;all_goals
     generalize (qO E.s p i (C.line,C.iU)).1=L at *;generalize (qO E.s p i (C.line,C.iU)).2=K at *
    .generalize p+i=q at *;generalize bt E.s q=y at *;have Q:(i:Int)<n:=o_;by_cases O:y=10
     .subst O;go_wp2_with fail;go_quiet (fail);have H:=bL (((HT.o.drewN nq).set 2 (I_ (L+1)) (D:={ C with dU:=R,line:=L+1,iU:=K }) rfl rfl rfl rfl).set 3 (I_ 1) (D:={ C with dU:=R,line:=L+1,iU:=1 }) rfl rfl rfl rfl);have a:=bL (bU (bU (xO HX.o nq) G 2 (I_ (L+1))) G 3 (I_ 1));go_wp2;go_roundg (n-(i+1));exact⟨i+1,o_,by go_num,rfl,by rw[EA.o];exact H.o,a.o⟩;omega
     .have W:(y == 10)=false:=by simpa using O
      go_wp2_with fail;go_quiet (fail);have H:=bL ((HT.o.drewN nq).set 3 (I_ (K+1)) (D:={ C with dU:=R,line:=L,iU:=K+1 }) rfl rfl rfl rfl);have a:=bL (bU (xO HX.o nq) G 3 (I_ (K+1)));go_wp2;go_roundg (n-(i+1));exact⟨i+1,o_,by go_num,rfl,by rw[EA.o,if_neg O];exact H.o,a.o⟩;omega
    .have H:=bQ 1 N.o rfl;have x2:=bQ 2 N.o rfl;have c4:=bQ 4 A.o.m.fB rfl;have f4:=bM A.o.m.fB 4;have c5:=bQ 5 A.o.m.fB rfl;have f5:=bM A.o.m.fB 5;by_cases a1:r.act=1
     .have q:Hid (gH r C=r.mode/\mI r C=C.lN/\ny r C=C.jy):=by unfold gH mI ny;exact⟨by rw[if_pos (.inl a1)],by rw[if_neg o_],by rw[if_neg o_,if_neg o_]⟩
      rw[a1]at H;clear a1;go_wp2;go_end0;exact⟨rfl,_,_,We.o _ _ _ (by rw[q.o.1,q.o.2.1,q.o.2.2];exact A.o.set 4 (I_ r.mode) rfl rfl rfl rfl)⟩
     have d1:(r.act == 1)=false:=by simpa using a1
     by_cases x:r.act=2
     .have q:Hid (gH r C=r.mode/\mI r C=C.lN.set dn C.mode/\ny r C=C.jy+1):=by unfold gH mI ny;exact⟨by rw[if_pos (.inr x)],by rw[if_pos x,DT.o],by rw[if_pos x]⟩
      have hdl:=T1.o x;have hde:=GD.o.depth;have PU:Hid (bY ((C.lN.set dn C.mode).take (dn+1))=bY (C.lN.take dn)++[I_ C.mode]):=by show _=_;rw[take_set _ _ _ o_];simp[bY]
      rw[x]at H;clear a1 d1 x;have gl2:=bP A.o.m.fB;have hsz:=A.o.sz;have ne1:b≠I.heap.size:=o_;have uC:I.heap.size≠b:=o_;go_wp2_with fail;have S1:I.drew.cell? (a_ b 4)=some (I_ C.mode):=c4;refine wd_ (S:=fun a=>a.cell? (a_ b 4)=some (I_ C.mode)) k_ S1 (fun dK=>?_);refine cB 0 ?_;refine cB 1 ?_;refine cB 2 ?_;refine cB 3 ?_;refine cB 5 ?_;refine cB 6 ?_;refine cB 7 ?_;refine cB 8 ?_;refine wpAnyH_ready (rs:=[4,9]) k_ i_ ?_;have H7:=bL (A.o.alloc (c_ #[I_ C.mode] 3)).drew;have KX7:Hid (dh (I.alloc (c_ #[I_ C.mode] 3)).drew gx 48 [I_ r.emit,I_ r.act,I_ r.mode]):=cO N.o _;have O:Hid ((I.alloc (c_ #[I_ C.mode] 3)).drew.ownsRow B 3 1 (.slice ao dn cp) dn (bY (C.lN.take dn))):=by have z:=H7.o.st;simp only at z;rw[DT.o]at z;exact z
      have S2:(I.alloc (c_ #[I_ C.mode] 3)).drew.cell? (a_ b 4)=some (I_ C.mode):=bN (j:=4) H7.o.m.fB rfl;refine AllReadyH.cons rfl (fun K a=>?_) (AllReadyH.cons rfl (fun K a=>?_) AllReadyH.nil);focus
       go_simp;refine a.out _ _ dK (fun gG=>?_)
      rotate_left;focus
       have c5':=bN (j:=5) H7.o.m.fB rfl;go_simp;refine a.out _ _ S2 (fun gG=>?_)
      rotate_left;all_goals
       clear a K
       try simp only[Act.put,sb_,sz_,ss_]
      refine fF 9 (fun K a=>?_);rotate_left;focus refine fF 4 (fun K a=>?_)
      all_goals
       go_simp;refine a.out _ _ S2 (fun lT=>?_);clear a K
       try simp only[Act.put,sb_,sz_,ss_]
       refine fF 10 (fun K a=>?_);refine sa_ _ r_ _ _ _ r_ B 3 i3 _ 1 8 underlying31 hi3 Zx h31 h32 rfl o_ (.slice ao dn cp) dn (bY (C.lN.take dn)) r_ O.o (a_ I.heap.size 0) 1 1 [I_ C.mode] r_ r_ (World.news_of_block (cs:=#[I_ C.mode]) (t:=3) (fr:=(0,0)) (hn_ _ _)) (by simp[Value.oneCell']) o_ (by unfold maxLen;omega) o_ (by simp;omega) (I.heap.size+1) i_ ?_;intro Z Y w2 di Q iX kg;have y:=fq O.o H7.o.m.fB d_ Q;have W:=cK y 5 (s_ Z (dn+1) Y);refine a.out _ _ (bN (j:=4) y rfl) (fun kT=>?_);have k5:=bQ 5 y rfl;have Oh:=bM y 5;clear a K
       try simp only[Act.put,sb_]
       refine cB 11 ?_;refine cB 12 ?_;refine fF 13 (fun K a=>?_);go_simp;refine a.out _ _ (bN (j:=4) W rfl) (fun nX=>?_);clear a K;refine wpAnyH_done k_ ?_ _;have H8:=bL (H7.o.push (l:=C.lN.set dn C.mode) (d:=C.jy+1) Q rfl X.o.jy.1 (by rw[DT.o,PU.o];exact di));have KX8:=bL (bU (fq O.o KX7.o d_ Q) G 5 (s_ Z (dn+1) Y));clear kT nX y W k5 Oh di Q H7 KX7 O;generalize w2.setCell (a_ b 5) (s_ Z (dn+1) Y)=y at *;have x2:=bQ 2 KX8.o rfl;have c4:=bQ 4 H8.o.m.fB rfl;have f4:=bM H8.o.m.fB 4;go_wp2;go_end0;exact⟨rfl,_,_,We.o _ _ _ (by rw[q.o.1,q.o.2.1,q.o.2.2];exact H8.o.set 4 (I_ r.mode) rfl rfl rfl rfl)⟩
     have d2:(r.act == 2)=false:=by simpa using x
     by_cases F:r.act=3
     .have hd0:=T2.o F;obtain⟨a,rfl⟩:∃a,dn=a+1:=⟨dn-1,o_⟩;have q:Hid (gH r C=Pu.aU C.lN a/\mI r C=C.lN/\ny r C=C.jy-1):=by unfold gH mI ny;have:=g.o.2.2.1;exact⟨by rw[if_neg o_,if_pos F,(o_:(C.jy-1).toNat=a)],by rw[if_neg o_],by rw[if_neg o_,if_pos F]⟩
      have O:Hid (I.ownsRow B 3 1 (.slice ao (a+1) cp) (a+1) (bY (C.lN.take (a+1)))):=by have z:=A.o.st;simp only at z;rw[DT.o]at z;exact z
      obtain⟨gk,ck,MZ,-,-⟩:=dL O.o o_;cases MZ;have q5:I.cell? (a_ gk (a))=some (I_ (Pu.aU C.lN a)):=bV O.o (by
       rw[bY,gm_,List.getElem?_take_of_lt o_,gg_ o_];simp[Pu.aU,gd_,gg_ (o_:a<C.lN.length)])
      rw[F]at H;clear a1 d1 x d2 F;have H8:=bL ((A.o.set 4 (I_ (Pu.aU C.lN a)) (D:={ C with dU:=R,line:=L,iU:=K,pos:=p+i,mode:=Pu.aU C.lN a }) rfl rfl rfl rfl).pop (n:=a+1) (d:=C.jy-1) DT.o o_ (by show _<=C.lN.length;omega) (by have:=g.o.2.2.1;omega));have Q:gk≠b:=fun e=>by
       have W:=A.o.m.fB;rcases O.o.2 with ⟨y,_⟩ | ⟨g',Y,cur,y,_,Z,_⟩
       .cases y
       .cases y;unfold dh at W;rw[e,W]at Z;simp at Z
      have y:b≠gk:=fun e=>Q e.symm;clear A N O;go_wp2;go_end0;exact⟨rfl,_,_,We.o _ _ _ (by rw[q.o.1,q.o.2.1,q.o.2.2];exact H8.o)⟩
     have a:(r.act == 3)=false:=by simpa using F
     have q:Hid (gH r C=C.mode/\mI r C=C.lN/\ny r C=C.jy):=by unfold gH mI ny;exact⟨by rw[if_neg o_,if_neg F],by rw[if_neg x],by rw[if_neg x,if_neg F]⟩
     go_wp2;go_end0;exact⟨rfl,_,_,We.o _ _ _ (by rw[q.o.1,q.o.2.1,q.o.2.2];exact A.o)⟩
end Go.Proofs.YtmccnmgaoppogabGreat
