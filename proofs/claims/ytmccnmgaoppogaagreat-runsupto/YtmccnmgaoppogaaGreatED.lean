import Derived.Test.YtmccnmgaoppogaaGreatKae
namespace Go.Proofs.YtmccnmgaoppogaaGreat
open Pu
set_option linter.all false
set_option maxRecDepth 100000
set_option maxHeartbeats 8000000
open Go.RowKit
def af9 (B g:Nat) (s:Y_) (i:Nat) (d:Bool) (ps:List Pu.aJ) (w:W_) (e:Ending) (w':W_):Prop:=
 e=.returned (.tuple #[])/\∃vp qs,Rk B w w'/\Rd B g s i ps d vp qs w'
section
variable {B g i:Nat} {s:Y_} {ps:List Pu.aJ} {d:Bool} {vp:V_} {qs:List (Pu.aJ × V_)} {W W':W_}
theorem Rd.get (h:Rd B g s i ps d vp qs W) {p:Nat} {x:Pu.aJ} (hx:ps[p]?=some x):∃v,qs[p]?=some (x,v)/\ed W v x.next:=by
 rw [<-h.ps,gm_] at hx
 cases hq:qs[p]? with
 | none=>rw [hq] at hx;cases hx
 | some q=>rw [hq] at hx;have e:q.1=x:=oi_ hx;subst e;exact⟨q.2,rfl,h.nx q (mg_ hq)⟩
theorem EH {α:Type} {l:List α} {p:Nat} {x:α} (f:α->α) (h:l[p]?=some x):l.modify p f=l.set p (f x):=by
 apply List.ext_getElem?;intro j;rw [List.getElem?_modify,List.getElem?_set];by_cases hj:p=j
 .subst hj;have hl:=(ge_.1 h).1;rw [h];simp [hl]
 .simp [hj]
theorem Rd.lead {gp cap:Nat} (h:Rd B g s i ps d (s_ gp qs.length cap) qs W) {p:Nat} {x:Pu.aJ} {v u:V_} (hx:qs[p]?=some (x,v)) {tl:List Nat} (hu:ed W u (Pu.un x.next tl)) :
  Rd B g s i (vD tl ps p) d (s_ gp qs.length cap) (qs.set p ({ x with next:=Pu.un x.next tl },u)) (W.setCell (a_ gp (p*257+256)) u)/\Rk B W (W.setCell (a_ gp (p*257+256)) u):=by
 have ho:=JG (j:=p*257+256) (u:=u) h.own;have hg:=gs_ W gp (p*257+256) u;have rk:Rk B W (W.setCell (a_ gp (p*257+256)) u):=Rk.row h.own h.lt hg;rw [acD hx] at ho;refine⟨⟨dR h.own h.rb (by decide) hg,h.up,by rw [le_];exact ho,?_,fun q hq=>?_⟩,rk⟩
 .have hp:ps[p]?=some x:=by rw [<-h.ps,gm_,hx];rfl
  rw [List.map_set,h.ps];unfold vD;rw [EH _ hp]
 .rcases List.mem_or_eq_of_mem_set hq with k | k
  .exact rk.jF (h.nx q k)
  .subst k;exact rk.jF hu
theorem Rd.some (h:Rd B g s i ps d vp qs W) (hl:0<qs.length):∃gp cap,vp=s_ gp qs.length cap/\qs.length<=cap/\cap<=9223372036854775807/\gp<W.heap.size:=by obtain⟨gp,cap,e,h1,h2⟩:=dJ h.own hl;have:=h.own;rw [e] at this;exact⟨gp,cap,e,h1,h2,(lI this).2⟩
end
theorem MG (B g i:Nat) (s:Y_) (ps:List Pu.aJ) (d:Bool) (vp:V_) (qs:List (Pu.aJ × V_)) (vf vt:V_) (fr tl:List Nat) (w:W_) (h:Rd B g s i ps d vp qs w) (hok:iU ps) (hl:ps.length<=1000) (hf:ed w vf fr) (ht:ed w vt tl) (h1:sJ ps.length fr) (h2:sJ ps.length tl) :
  C_ 163 #[p_ g,vf,vt] w (af9 B g s i d (Pu.leads fr tl ps) w):=by
 obtain⟨af,cf,rfl,f1,f2,f3⟩:=hf.form;obtain⟨at2,ct,rfl,t1,t2,t3⟩:=ht.form;have fl:=h1.len;have tll:=h2.len;have HF:=bK hf;have HT:=bK ht;have H1:=bK h1;have H2:=bK h2
 have P0:Hid (∃vp qs,Rk B w w/\Rd B g s i (Pu.leads (fr.take 0) tl ps) d vp qs w/\iU (Pu.leads (fr.take 0) tl ps)):=⟨vp,qs,Rk.refl _ _,h,hok⟩
 have HOK:=bK hok;clear hf ht h h1 h2 hok;go_enter Tryz.func163,Tryz.ntmps163
 go_wp2_with fail
 go_loopg [10] fr.length (fun gk kv wx=>∃k:Nat,k<=fr.length/\kv=I_ k/\gk=fr.length-k/\∃vp qs,Rk B w wx/\Rd B g s i (Pu.leads (fr.take k) tl ps) d vp qs wx/\iU (Pu.leads (fr.take k) tl ps))
 case atStart=>exact⟨0,zl_ _,rfl,rfl,P0.o⟩
 case round=>
  clear P0;obtain⟨k,hk,rfl,rfl,vp',qs',hrk,hrd,hok⟩:=hrel;by_cases hlt:k<fr.length
  .have d1:=nV k fr.length;have wi:=kg k;obtain⟨p,hp⟩:=qG fr k hlt;have hpl:p<ps.length:=H1.o.2 p (mg_ hp);have kU:=nA (fr.take k) tl ps;obtain⟨x,hx⟩:∃x,(Pu.leads (fr.take k) tl ps)[p]?=some x:=⟨_,gg_ (by rw [kU];exact hpl)⟩;obtain⟨v,hq,hv⟩:=hrd.get hx;have ql:=hrd.len;rw [kU] at ql;have hpq:p<qs'.length:=by omega
   obtain⟨gp,cap,rfl,c1,c2,c3⟩:=hrd.some (by omega);obtain⟨gf,ef,gl,gc⟩:=HF.o.some (by omega);subst ef;have hxi:=hok x (mg_ hx);rw [kU] at hxi;have xl:=hxi.len;obtain⟨av,cv,rfl,v1,v2,v3⟩:=hv.form;have UN:=bK (pq _ _ x.next tl wr.drew (hv.below ((Br_ _ _).drew)) ((hrk.jF HT.o).below ((Br_ _ _).drew)) (by omega) (by omega));have e1:wr.cell? (a_ gf k)=some (I_ p):=by have:=(hrk.jF HF.o);obtain⟨g',eg,_,gc'⟩:=this.some (by omega);cases eg;exact gc' k p hp
   have e2:=bP 2 hrd.rb rfl;have e3:wr.cell? (a_ gp (p*257+256))=some (.slice av x.next.length cv):=bT hrd.own (E5 hq);have S1:wr.drew.cell? (a_ g 2)=some (s_ gp qs'.length cap):=e2;have ip0:=jg p;have ip1:(p:Int)<qs'.length:=by omega
   have ST:Hid (Pu.leads (fr.take (k+1)) tl ps=vD tl (Pu.leads (fr.take k) tl ps) p):=by show _=_;rw [List.take_add_one,hp];simp [Pu.leads]
   have RD:=bK hrd;have RK:=bK hrk;have OK:=bK hok;have HQ:=bK hq;have QL:=bK ql;have Xk:=bK kU;clear hrd hrk hok hq hv gc hx hp hxi ql kU
   go_wp2_with fail
   clear e1 e2;have e4:wr.drew.cell? (a_ gp (p*257+256))=some (.slice av x.next.length cv):=e3
   have ngp:g≠gp:=fun e=>by
    have hb:=RD.o.rb;have ho:=RD.o.own;rcases ho.2 with ⟨e0,_⟩ | ⟨g',cap',cur,e0,_,h4,_⟩
    .cases e0
    .cases e0
     unfold Rb dh at hb;rw [e,h4] at hb;cases hb
   have AFT:Hid (∀w',B_ wr.drew w'->w'.cell? (a_ g 2)=some (s_ gp qs'.length cap)/\w'.cell? (a_ gp (p*257+256))=some (.slice av x.next.length cv)/\w'.frozen? (a_ gp (p*257+256))=false/\∀v,(w'.setCell (a_ gp (p*257+256)) v).cell? (a_ g 2)=some (s_ gp qs'.length cap)):=fun w' hb=>by have r':=RD.o.below (Below.drew (Br_ wr.heap.size wr));have r2:=r'.below hb;have a1:=bP 2 r2.rb rfl;refine⟨a1,bT r2.own (E5 HQ.o),Qp r2.own _,fun v=>?_⟩;rw [World.cell?_setCell_other _ _ _ _ (by simp)];exact a1
   refine wd_ (S:=fun w'=>w'.cell? (a_ g 2)=some (s_ gp qs'.length cap)) (by kernel_rfl) S1 (fun dF=>?_);refine bW 0 ?_
   refine bW 1 ?_
   refine bW 2 ?_
   refine bW 3 ?_
   refine bW 4 ?_
   refine bW 5 ?_
   refine bW 6 ?_
   refine bW 7 ?_
   refine bW 8 ?_
   refine bW 9 ?_
   refine bW 10 ?_
   refine bW 11 ?_
   refine bW 13 ?_
   refine fq 12 (fun K hK=>?_)
   go_simp
   refine hK.out _ _ dF (fun fV=>?_);clear hK K
   try simp only [Act.put,sb_]
   refine fq 14 (fun K hK=>?_)
   go_simp
   refine UN.o.mono ?_
   clear UN;rintro e w' ⟨u0,rfl,hb,hu⟩;obtain⟨au,cu,rfl,u1,u2⟩:=dS hu;have kS:=AFT.o w' hb;have kq:=kS.2.1;have kf:=kS.2.2.1;have B1:=bK hb;have U1:Hid (ed w' (.slice au (Pu.un x.next tl).length cu) (Pu.un x.next tl)):=dH hu (zl_ _);clear hb hu AFT;refine hK.out _ _ kS.1 (fun lh=>?_);clear hK K
   try simp only [Act.put,sb_]
   refine bW 15 ?_
   refine bW 16 ?_
   refine fq 17 (fun K hK=>?_)
   go_simp
   refine hK.out _ _ (kS.2.2.2 _) (fun lq=>?_);clear hK K;refine wpAnyH_done (by kernel_rfl) ?_ _;have R2:=bK (((RD.o.below (Below.drew (Br_ wr.heap.size wr))).below B1.o).lead HQ.o U1.o);have K2:Hid (Rk B w (w'.setCell (a_ gp (p*257+256)) (.slice au (Pu.un x.next tl).length cu))):=(RK.o.trans (.below RD.o.lt (iT (Below.drew (Br_ wr.heap.size wr)) B1.o))).trans R2.o.2;have OK2:Hid (iU (Pu.leads (fr.take (k+1)) tl ps)):=by show iU _;rw [ST.o];exact ME OK.o (by rw [Xk.o];exact H2.o)
   clear dF fV lh lq kS kq kf B1 U1;generalize w'.setCell (a_ gp (p*257+256)) (.slice au (Pu.un x.next tl).length cu)=W4 at *;go_wp2;go_roundg (fr.length-(k+1))
   case measure=>omega
   case rel=>exact⟨k+1,by omega,by go_num,rfl,_,_,K2.o,by rw [ST.o];exact R2.o.1,OK2.o⟩
  .have d1:=mM k fr.length;have e:k=fr.length:=by omega
   subst e;rw [List.take_length] at hrd;have RD:=bK hrd;have RK:=bK hrk;clear hrd hrk hok;go_wp2
   go_end0
   exact⟨rfl,_,_,RK.o,RD.o⟩
def Pm (W:W_) (v:V_) (a:aK):Prop:=∃af nf cf al nl cl,v=.agg #[.bool a.empty,.slice af nf cf,.slice al nl cl]/\ed W (.slice af nf cf) a.first/\ed W (.slice al nl cl) a.last
theorem yw (w:W_) (t:Nat) (c1 c2 c3:List V_) :
  dh (((w.alloc (c_ c1.toArray t)).alloc (c_ c2.toArray t)).alloc (c_ c3.toArray t)) w.heap.size t c1/\dh (((w.alloc (c_ c1.toArray t)).alloc (c_ c2.toArray t)).alloc (c_ c3.toArray t)) (w.heap.size+1) t c2/\dh (((w.alloc (c_ c1.toArray t)).alloc (c_ c2.toArray t)).alloc (c_ c3.toArray t)) (w.heap.size+1+1) t c3:=by
 have h1:=hn_ w (c_ c1.toArray t);have h2:=hn_ (w.alloc (c_ c1.toArray t)) (c_ c2.toArray t);rw [wa_] at h2;have h3:=hn_ ((w.alloc (c_ c1.toArray t)).alloc (c_ c2.toArray t)) (c_ c3.toArray t);rw [wa_,wa_] at h3;exact⟨dx (dx h1 _) _,dx h2 _,h3⟩
theorem KY.pm {B g i:Nat} {s:Y_} {d:Bool} {r:aK × List Pu.aJ} {w w':W_} {e:Ending} (h:KY B g s i d r w e w'):∃v vp qs,e=.returned v/\Pm w' v r.1/\Rk B w w'/\Rd B g s i r.2 d vp qs w':=by obtain⟨vf,vl,vp,qs,rfl,h1,h2,h3,h4⟩:=h;obtain⟨af,cf,rfl,_⟩:=h3.form;obtain⟨al,cl,rfl,_⟩:=h4.form;exact⟨_,vp,qs,rfl,⟨_,_,_,_,_,_,rfl,h3,h4⟩,h1,h2⟩
theorem Pm.rk {B:Nat} {w w':W_} {v:V_} {a:aK} (h:Pm w v a) (hk:Rk B w w'):Pm w' v a:=by obtain⟨af,nf,cf,al,nl,cl,e,h1,h2⟩:=h;exact⟨af,nf,cf,al,nl,cl,e,hk.jF h1,hk.jF h2⟩
theorem Pm.below {w w':W_} {v:V_} {a:aK} (h:Pm w v a) (hb:B_ w w'):Pm w' v a:=by obtain⟨af,nf,cf,al,nl,cl,e,h1,h2⟩:=h;exact⟨af,nf,cf,al,nl,cl,e,h1.below hb,h2.below hb⟩
theorem Ec (va vb:V_) (a b:aK) (w:W_) (ha:Pm w va a) (hb:Pm w vb b) (n:Nat) (hn:n<=1000) (oa:mI n a) (ob:mI n b) :
  C_ 151 #[va,vb] w (fun e w'=>∃v,e=.returned v/\Pm w' v (Pu.either a b)/\B_ w w'):=by
 obtain⟨af,nf,cf,al,nl,cl,rfl,a1,a2⟩:=ha;obtain⟨bf,mf,df,bl,ml,dl,rfl,b1,b2⟩:=hb;have la:=oa.1.len;have la':=oa.2.len;have lb:=ob.1.len;have lb':=ob.2.len;obtain⟨ea,aP,ym⟩:=a;obtain⟨eb,aQ,AJ⟩:=b;simp only at a1 a2 b1 b2 la la' lb lb';have A1:=bK a1;have A2:=bK a2;have B1:=bK b1;have B2:=bK b2;clear a1 a2 b1 b2 oa ob;have TB:=bK (yw w 83 [.bool ea,.slice af nf cf,.slice al nl cl] [.bool eb,.slice bf mf df,.slice bl ml dl] [.bool false,n_,n_]);have BE:Hid (B_ w (((w.alloc (c_ #[.bool ea,.slice af nf cf,.slice al nl cl] 83)).alloc (c_ #[.bool eb,.slice bf mf df,.slice bl ml dl] 83)).alloc (c_ #[.bool false,n_,n_] 83))):=(((Br_ w.heap.size w).alloc di _).alloc (by simp) _).alloc (by simp;omega) _;have x1:=bP 1 TB.o.1 rfl;have x2:=bP 2 TB.o.1 rfl;have y1:=bP 1 TB.o.2.1 rfl;have y2:=bP 2 TB.o.2.1 rfl;go_enter Tryz.func151,Tryz.ntmps151
 go_wp2_with fail
 generalize ((w.alloc (c_ #[.bool ea,.slice af nf cf,.slice al nl cl] 83)).alloc (c_ #[.bool eb,.slice bf mf df,.slice bl ml dl] 83)).alloc (c_ #[.bool false,n_,n_] 83)=W0 at *;refine (pq _ _ aP aQ W0 (A1.o.below BE.o) (B1.o.below BE.o) (by omega) (by omega)).mono ?_
 clear x1 y1 x2 y2;rintro e w1 ⟨u1,rfl,hb1,ho1⟩;have T1:Hid (dh w1 w.heap.size 83 [.bool ea,.slice af nf cf,.slice al nl cl]):=bN TB.o.1 hb1 (bO TB.o.1);have T2:Hid (dh w1 (w.heap.size+1) 83 [.bool eb,.slice bf mf df,.slice bl ml dl]):=bN TB.o.2.1 hb1 (bO TB.o.2.1);have T3:Hid (dh w1 (w.heap.size+1+1) 83 [.bool false,n_,n_]):=bN TB.o.2.2 hb1 (bO TB.o.2.2);have BE1:=bK (iT BE.o hb1);obtain⟨au,cu,rfl,_,_⟩:=dS ho1;have N1:Hid (ed w1 (.slice au (Pu.un aP aQ).length cu) (Pu.un aP aQ)):=dH ho1 (zl_ _);clear hb1 ho1 TB BE;have x2:=bP 2 T1.o rfl;have y2:=bP 2 T2.o rfl
 go_wp2_with fail
 refine (pq _ _ ym AJ w1 (A2.o.below BE1.o) (B2.o.below BE1.o) (by omega) (by omega)).mono ?_
 clear x2 y2;rintro e w2 ⟨u2,rfl,hb2,ho2⟩;have T1':=bK (bN T1.o hb2 (bO T1.o));have T2':=bK (bN T2.o hb2 (bO T2.o));have T3':=bK (bN T3.o hb2 (bO T3.o));have BE2:=bK (iT BE1.o hb2);obtain⟨av,cv,rfl,_,_⟩:=dS ho2;have N1':=bK (N1.o.below hb2);have N2:Hid (ed w2 (.slice av (Pu.un ym AJ).length cv) (Pu.un ym AJ)):=dH ho2 (zl_ _);clear hb2 ho2 T1 T2 T3 BE1 N1;have x0:=bP 0 T1'.o rfl;have y0:=bP 0 T2'.o rfl;have z0:=bP 0 T3'.o rfl;have z1:=bP 1 T3'.o rfl;have z2:=bP 2 T3'.o rfl;have f0:=bL T3'.o 0;have f1:=bL T3'.o 1;have f2:=bL T3'.o 2;have DONE:Hid (∀c:Bool,c=(ea || eb)->dh (((w2.setCell (a_ (w.heap.size+1+1) 0) (.bool c)).setCell (a_ (w.heap.size+1+1) 1) (.slice au (Pu.un aP aQ).length cu)).setCell (a_ (w.heap.size+1+1) 2) (.slice av (Pu.un ym AJ).length cv)) (w.heap.size+1+1) 83 [.bool c,.slice au (Pu.un aP aQ).length cu,.slice av (Pu.un ym AJ).length cv]/\Pm (((w2.setCell (a_ (w.heap.size+1+1) 0) (.bool c)).setCell (a_ (w.heap.size+1+1) 1) (.slice au (Pu.un aP aQ).length cu)).setCell (a_ (w.heap.size+1+1) 2) (.slice av (Pu.un ym AJ).length cv)) (.agg #[.bool c,.slice au (Pu.un aP aQ).length cu,.slice av (Pu.un ym AJ).length cv]) (Pu.either ⟨ea,aP,ym⟩ ⟨eb,aQ,AJ⟩)/\B_ w (((w2.setCell (a_ (w.heap.size+1+1) 0) (.bool c)).setCell (a_ (w.heap.size+1+1) 1) (.slice au (Pu.un aP aQ).length cu)).setCell (a_ (w.heap.size+1+1) 2) (.slice av (Pu.un ym AJ).length cv))):=fun c hc=>by have g5:=iP w2 (w.heap.size+1+1) (.bool c) (.slice au (Pu.un aP aQ).length cu) (.slice av (Pu.un ym AJ).length cv);refine⟨ja T3'.o _ _ _,⟨_,_,_,_,_,_,by rw [hc];rfl,dI N1'.o T3'.o (by decide) g5,dI N2.o T3'.o (by decide) g5⟩,BE2.o.grown g5 BE2.o.size (fun k e=>by cases e;omega)⟩
 cases ea <;> cases eb
 all_goals
  go_wp2;obtain⟨q1,q2,q3⟩:=DONE.o _ rfl;have ld:=nG q1;simp only [Bool.or_false,Bool.or_true] at ld;exact br_ (by simp [results,Tryz.results151,asAddr,ld]) rfl ⟨_,rfl,q2,q3⟩
theorem Cc (w:W_) (t:Nat) (c1 c2:List V_) :
  dh ((w.alloc (c_ c1.toArray t)).alloc (c_ c2.toArray t)) w.heap.size t c1/\dh ((w.alloc (c_ c1.toArray t)).alloc (c_ c2.toArray t)) (w.heap.size+1) t c2:=by
 have h1:=hn_ w (c_ c1.toArray t);have h2:=hn_ (w.alloc (c_ c1.toArray t)) (c_ c2.toArray t);rw [wa_] at h2;exact⟨dx h1 _,h2⟩
structure IT (B g:Nat) (s:Y_) (i:Nat) (d:Bool) (ps:List Pu.aJ) (w:W_) (gA gB gR gW:Nat) (ea eb c:Bool) (vfa vla vfb vlb vf vl:V_) (aP la aQ lb fl ll:List Nat) (W:W_):Prop where
 a:dh W gA 83 [.bool ea,vfa,vla]
 b:dh W gB 83 [.bool eb,vfb,vlb]
 r:dh W gR 83 [.bool false,n_,n_]
 m:dh W gW 83 [.bool c,vf,vl]
 nfa:ed W vfa aP
 nla:ed W vla la
 nfb:ed W vfb aQ
 nlb:ed W vlb lb
 nf:ed W vf fl
 nl:ed W vl ll
 rd:∃vp qs,Rd B g s i ps d vp qs W
 rk:Rk B w W
 ap:gA≠gW/\gB≠gW/\gR≠gW/\w.heap.size<=gW/\w.heap.size<=gR/\B<=w.heap.size
section
variable {B g:Nat} {s:Y_} {i:Nat} {d:Bool} {ps:List Pu.aJ} {w:W_} {gA gB gR gW:Nat} {ea eb c:Bool} {vfa vla vfb vlb vf vl u:V_} {aP la aQ lb fl ll ul:List Nat} {W W':W_}
theorem IT.below (h:IT B g s i d ps w gA gB gR gW ea eb c vfa vla vfb vlb vf vl aP la aQ lb fl ll W) (hb:B_ W W'):IT B g s i d ps w gA gB gR gW ea eb c vfa vla vfb vlb vf vl aP la aQ lb fl ll W':=by obtain⟨vp,qs,rd⟩:=h.rd;exact⟨bN h.a hb (bO h.a),bN h.b hb (bO h.b),bN h.r hb (bO h.r),bN h.m hb (bO h.m),h.nfa.below hb,h.nla.below hb,h.nfb.below hb,h.nlb.below hb,h.nf.below hb,h.nl.below hb,⟨vp,qs,rd.below hb⟩,h.rk.trans (.below rd.lt hb),h.ap⟩
theorem IT.first (h:IT B g s i d ps w gA gB gR gW ea eb c vfa vla vfb vlb vf vl aP la aQ lb fl ll W) (hu:ed W u ul):IT B g s i d ps w gA gB gR gW ea eb c vfa vla vfb vlb u vl aP la aQ lb ul ll (W.setCell (a_ gW 1) u):=by obtain⟨vp,qs,rd⟩:=h.rd;have hg:=gs_ W gW 1 u;exact⟨dB h.a h.ap.1 _ _,dB h.b h.ap.2.1 _ _,dB h.r h.ap.2.2.1 _ _,cO h.m 1 u,dI h.nfa h.m (by decide) hg,dI h.nla h.m (by decide) hg,dI h.nfb h.m (by decide) hg,dI h.nlb h.m (by decide) hg,dI hu h.m (by decide) hg,dI h.nl h.m (by decide) hg,⟨vp,qs,rd.yV h.m (by decide) (by decide) (by decide) hg⟩,h.rk.fresh hg h.ap.2.2.2.1 h.ap.2.2.2.2.2,h.ap⟩
theorem IT.last (h:IT B g s i d ps w gA gB gR gW ea eb c vfa vla vfb vlb vf vl aP la aQ lb fl ll W) (hu:ed W u ul):IT B g s i d ps w gA gB gR gW ea eb c vfa vla vfb vlb vf u aP la aQ lb fl ul (W.setCell (a_ gW 2) u):=by obtain⟨vp,qs,rd⟩:=h.rd;have hg:=gs_ W gW 2 u;exact⟨dB h.a h.ap.1 _ _,dB h.b h.ap.2.1 _ _,dB h.r h.ap.2.2.1 _ _,cO h.m 2 u,dI h.nfa h.m (by decide) hg,dI h.nla h.m (by decide) hg,dI h.nfb h.m (by decide) hg,dI h.nlb h.m (by decide) hg,dI h.nf h.m (by decide) hg,dI hu h.m (by decide) hg,⟨vp,qs,rd.yV h.m (by decide) (by decide) (by decide) hg⟩,h.rk.fresh hg h.ap.2.2.2.1 h.ap.2.2.2.2.2,h.ap⟩
end
def RQ (B g:Nat) (s:Y_) (i:Nat) (d:Bool) (r:aK × List Pu.aJ) (w:W_) (e:Ending) (w':W_):Prop:=
 ∃v vp qs,e=.returned v/\Pm w' v r.1/\Rk B w w'/\Rd B g s i r.2 d vp qs w'
theorem PD (B g i:Nat) (s:Y_) (ps:List Pu.aJ) (d:Bool) (vp:V_) (qs:List (Pu.aJ × V_)) (va vb:V_) (a b:aK) (w:W_) (h:Rd B g s i ps d vp qs w) (hok:iU ps) (hl:ps.length<=1000) (ha:Pm w va a) (hb:Pm w vb b) (oa:mI ps.length a) (ob:mI ps.length b) :
  C_ 156 #[p_ g,va,vb] w (RQ B g s i d (wW a b ps) w):=by
 obtain⟨af,nf,cf,al,nl,cl,rfl,a1,a2⟩:=ha;obtain⟨bf,mf,df,bl,ml,dl,rfl,b1,b2⟩:=hb;have la:=oa.1.len;have la':=oa.2.len;have lb:=ob.1.len;have lb':=ob.2.len;have OA:=bK oa;have OB:=bK ob;clear oa ob;obtain⟨ea,aP,ym⟩:=a;obtain⟨eb,aQ,AJ⟩:=b;simp only at a1 a2 b1 b2 la la' lb lb';have BL:=h.lt;have TB:=bK (yw w 83 [.bool ea,.slice af nf cf,.slice al nl cl] [.bool eb,.slice bf mf df,.slice bl ml dl] [.bool false,n_,n_]);have BE:Hid (B_ w (((w.alloc (c_ #[.bool ea,.slice af nf cf,.slice al nl cl] 83)).alloc (c_ #[.bool eb,.slice bf mf df,.slice bl ml dl] 83)).alloc (c_ #[.bool false,n_,n_] 83))):=(((Br_ w.heap.size w).alloc di _).alloc (by simp) _).alloc (by simp;omega) _;have H0:=bK (h.below BE.o);have A1:=bK (a1.below BE.o);have A2:=bK (a2.below BE.o);have B1:=bK (b1.below BE.o);have B2:=bK (b2.below BE.o);have OK:=bK hok;have KB:Hid (Rk B w (((w.alloc (c_ #[.bool ea,.slice af nf cf,.slice al nl cl] 83)).alloc (c_ #[.bool eb,.slice bf mf df,.slice bl ml dl] 83)).alloc (c_ #[.bool false,n_,n_] 83))):=.below BL BE.o;have x2:=bP 2 TB.o.1 rfl;have y1:=bP 1 TB.o.2.1 rfl;clear h hok a1 a2 b1 b2 BE;go_enter Tryz.func156,Tryz.ntmps156
 go_wp2_with fail
 generalize ((w.alloc (c_ #[.bool ea,.slice af nf cf,.slice al nl cl] 83)).alloc (c_ #[.bool eb,.slice bf mf df,.slice bl ml dl] 83)).alloc (c_ #[.bool false,n_,n_] 83)=W0 at *;refine (MG B g i s ps d vp qs _ _ ym aQ W0 H0.o OK.o hl A2.o B1.o OA.o.2 OB.o.1).mono ?_
 clear x2 y1;rintro e w1 ⟨rfl,OG,qs1,k1,r1⟩;have XA:=bK (k1.fA TB.o.1 (by decide) (by decide));have XB:=bK (k1.fA TB.o.2.1 (by decide) (by decide));have XR:=bK (k1.fA TB.o.2.2 (by decide) (by decide));have la1:=bO XA.o;have lb1:=bO XB.o;have lr1:=bO XR.o;have I0:Hid (∀c:Bool,IT B g s i d (Pu.leads ym aQ ps) w w.heap.size (w.heap.size+1) (w.heap.size+1+1) w1.heap.size ea eb c (.slice af nf cf) (.slice al nl cl) (.slice bf mf df) (.slice bl ml dl) (.slice af nf cf) (.slice bl ml dl) aP ym aQ AJ aP AJ (w1.alloc (c_ #[.bool c,.slice af nf cf,.slice bl ml dl] 83))):=fun c=>by have hb:=(Br_ w1.heap.size w1).alloc di (c_ #[.bool c,.slice af nf cf,.slice bl ml dl] 83);exact⟨bN XA.o hb la1,bN XB.o hb lb1,bN XR.o hb lr1,hn_ _ _,(k1.jF A1.o).below hb,(k1.jF A2.o).below hb,(k1.jF B1.o).below hb,(k1.jF B2.o).below hb,(k1.jF A1.o).below hb,(k1.jF B2.o).below hb,⟨OG,qs1,r1.below hb⟩,(KB.o.trans k1).trans (.below r1.lt hb),by omega,by omega,by omega,by omega,by omega,BL⟩
 clear TB H0 A1 A2 B1 B2 OK KB k1 r1 OA OB;have x0:=bP 0 XA.o rfl;have x1:=bP 1 XA.o rfl;have y0:=bP 0 XB.o rfl;have y2:=bP 2 XB.o rfl;cases ea
 .cases eb
  all_goals
   go_upto_region 3 with (fail);have I1:=bK (I0.o false);clear I0 x0 x1 y0 y2 XA XB XR;generalize w1.alloc (c_ #[.bool false,.slice af nf cf,.slice bl ml dl] 83)=W2 at *;generalize w1.heap.size=gW at *;have x0:=bP 0 I1.o.a rfl;go_upto_region 5 with (fail);clear x0;have y0:=bP 0 I1.o.b rfl
  .go_upto_region 7 with (fail)
   clear y0;have aW:=bP 0 I1.o.m rfl;have q1:=bP 1 I1.o.m rfl;have q2:=bP 2 I1.o.m rfl;have z0:=bP 0 I1.o.r rfl;have f0:=bL I1.o.r 0;have z1:=bP 1 I1.o.r rfl;have f1:=bL I1.o.r 1;have z2:=bP 2 I1.o.r rfl;have f2:=bL I1.o.r 2;go_wp2;have g5:=iP W2 (w.heap.size+1+1) (.bool false) (.slice af nf cf) (.slice bl ml dl);have VQ:=ja I1.o.r (.bool false) (.slice af nf cf) (.slice bl ml dl);have ld:=nG VQ;obtain⟨vp2,qs2,Ku⟩:=I1.o.rd;refine br_ (v:=.agg #[.bool false,.slice af nf cf,.slice bl ml dl]) (by simp [results,Tryz.results156,asAddr,ld]) rfl ?_
   exact⟨_,_,_,rfl,⟨_,_,_,_,_,_,rfl,dI I1.o.nf I1.o.r (by decide) g5,dI I1.o.nl I1.o.r (by decide) g5⟩,I1.o.rk.fresh g5 I1.o.ap.2.2.2.2.1 BL,Ku.yV I1.o.r (by decide) (by decide) (by decide) g5⟩
  .have x2:=bP 2 I1.o.a rfl;have y2:=bP 2 I1.o.b rfl
   go_wp2_with fail
   refine (pq _ _ ym AJ W2 I1.o.nla I1.o.nlb (by omega) (by omega)).mono ?_
   clear y0 x2 y2;rintro e w5 ⟨u1,rfl,hb5,ho5⟩;obtain⟨av,cv,rfl,_,_⟩:=dS ho5;have N5:Hid (ed w5 (.slice av (Pu.un ym AJ).length cv) (Pu.un ym AJ)):=dH ho5 (zl_ _);have I4:=bK (I1.o.below hb5);clear hb5 ho5 I1;have m2:=bP 2 I4.o.m rfl;have AX:=bL I4.o.m 2;go_upto_region 7 with (fail);have I5:=bK (I4.o.last N5.o);clear I4 N5 m2 AX;generalize w5.setCell (a_ gW 2) (.slice av (Pu.un ym AJ).length cv)=W6 at *;have aW:=bP 0 I5.o.m rfl;have q1:=bP 1 I5.o.m rfl;have q2:=bP 2 I5.o.m rfl;have z0:=bP 0 I5.o.r rfl;have f0:=bL I5.o.r 0;have z1:=bP 1 I5.o.r rfl;have f1:=bL I5.o.r 1;have z2:=bP 2 I5.o.r rfl;have f2:=bL I5.o.r 2;go_wp2;have g5:=iP W6 (w.heap.size+1+1) (.bool false) (.slice af nf cf) (.slice av (Pu.un ym AJ).length cv);have VQ:=ja I5.o.r (.bool false) (.slice af nf cf) (.slice av (Pu.un ym AJ).length cv);have ld:=nG VQ;obtain⟨vp2,qs2,Ku⟩:=I5.o.rd;refine br_ (v:=.agg #[.bool false,.slice af nf cf,.slice av (Pu.un ym AJ).length cv]) (by simp [results,Tryz.results156,asAddr,ld]) rfl ?_
   exact⟨_,_,_,rfl,⟨_,_,_,_,_,_,rfl,dI I5.o.nf I5.o.r (by decide) g5,dI I5.o.nl I5.o.r (by decide) g5⟩,I5.o.rk.fresh g5 I5.o.ap.2.2.2.2.1 BL,Ku.yV I5.o.r (by decide) (by decide) (by decide) g5⟩
 .cases eb
  focus
   go_upto_region 3 with (fail);have I1:=bK (I0.o false);clear I0 x0 x1 y0 y2 XA XB XR;generalize w1.alloc (c_ #[.bool false,.slice af nf cf,.slice bl ml dl] 83)=W2 at *
  rotate_left
  focus
   go_upto_region 3 with (fail);have I1:=bK (I0.o true);clear I0 x0 x1 y0 y2 XA XB XR;generalize w1.alloc (c_ #[.bool true,.slice af nf cf,.slice bl ml dl] 83)=W2 at *
  rotate_left
  all_goals
   generalize w1.heap.size=gW at *;have x0:=bP 0 I1.o.a rfl;have x1:=bP 1 I1.o.a rfl;have y1:=bP 1 I1.o.b rfl
   go_wp2_with fail
   refine (pq _ _ aP aQ W2 I1.o.nfa I1.o.nfb (by omega) (by omega)).mono ?_
   clear x0 x1 y1;rintro e w3 ⟨u0,rfl,hb3,ho3⟩;obtain⟨au,cu,rfl,_,_⟩:=dS ho3;have N3:Hid (ed w3 (.slice au (Pu.un aP aQ).length cu) (Pu.un aP aQ)):=dH ho3 (zl_ _);have I2:=bK (I1.o.below hb3);clear hb3 ho3 I1;have m1:=bP 1 I2.o.m rfl;have mf1:=bL I2.o.m 1;go_upto_region 5 with (fail);have I3:=bK (I2.o.first N3.o);clear I2 N3 m1 mf1;generalize w3.setCell (a_ gW 1) (.slice au (Pu.un aP aQ).length cu)=W4 at *;have y0:=bP 0 I3.o.b rfl
  .go_upto_region 7 with (fail)
   clear y0;have aW:=bP 0 I3.o.m rfl;have q1:=bP 1 I3.o.m rfl;have q2:=bP 2 I3.o.m rfl;have z0:=bP 0 I3.o.r rfl;have f0:=bL I3.o.r 0;have z1:=bP 1 I3.o.r rfl;have f1:=bL I3.o.r 1;have z2:=bP 2 I3.o.r rfl;have f2:=bL I3.o.r 2;go_wp2;have g5:=iP W4 (w.heap.size+1+1) (.bool false) (.slice au (Pu.un aP aQ).length cu) (.slice bl ml dl);have VQ:=ja I3.o.r (.bool false) (.slice au (Pu.un aP aQ).length cu) (.slice bl ml dl);have ld:=nG VQ;obtain⟨vp2,qs2,Ku⟩:=I3.o.rd;refine br_ (v:=.agg #[.bool false,.slice au (Pu.un aP aQ).length cu,.slice bl ml dl]) (by simp [results,Tryz.results156,asAddr,ld]) rfl ?_
   exact⟨_,_,_,rfl,⟨_,_,_,_,_,_,rfl,dI I3.o.nf I3.o.r (by decide) g5,dI I3.o.nl I3.o.r (by decide) g5⟩,I3.o.rk.fresh g5 I3.o.ap.2.2.2.2.1 BL,Ku.yV I3.o.r (by decide) (by decide) (by decide) g5⟩
  .have x2:=bP 2 I3.o.a rfl;have y2:=bP 2 I3.o.b rfl
   go_wp2_with fail
   refine (pq _ _ ym AJ W4 I3.o.nla I3.o.nlb (by omega) (by omega)).mono ?_
   clear y0 x2 y2;rintro e w5 ⟨u1,rfl,hb5,ho5⟩;obtain⟨av,cv,rfl,_,_⟩:=dS ho5;have N5:Hid (ed w5 (.slice av (Pu.un ym AJ).length cv) (Pu.un ym AJ)):=dH ho5 (zl_ _);have I4:=bK (I3.o.below hb5);clear hb5 ho5 I3;have m2:=bP 2 I4.o.m rfl;have AX:=bL I4.o.m 2;go_upto_region 7 with (fail);have I5:=bK (I4.o.last N5.o);clear I4 N5 m2 AX;generalize w5.setCell (a_ gW 2) (.slice av (Pu.un ym AJ).length cv)=W6 at *;have aW:=bP 0 I5.o.m rfl;have q1:=bP 1 I5.o.m rfl;have q2:=bP 2 I5.o.m rfl;have z0:=bP 0 I5.o.r rfl;have f0:=bL I5.o.r 0;have z1:=bP 1 I5.o.r rfl;have f1:=bL I5.o.r 1;have z2:=bP 2 I5.o.r rfl;have f2:=bL I5.o.r 2;go_wp2;have g5:=iP W6 (w.heap.size+1+1) (.bool true) (.slice au (Pu.un aP aQ).length cu) (.slice av (Pu.un ym AJ).length cv);have VQ:=ja I5.o.r (.bool true) (.slice au (Pu.un aP aQ).length cu) (.slice av (Pu.un ym AJ).length cv);have ld:=nG VQ;obtain⟨vp2,qs2,Ku⟩:=I5.o.rd;refine br_ (v:=.agg #[.bool true,.slice au (Pu.un aP aQ).length cu,.slice av (Pu.un ym AJ).length cv]) (by simp [results,Tryz.results156,asAddr,ld]) rfl ?_
   exact⟨_,_,_,rfl,⟨_,_,_,_,_,_,rfl,dI I5.o.nf I5.o.r (by decide) g5,dI I5.o.nl I5.o.r (by decide) g5⟩,I5.o.rk.fresh g5 I5.o.ap.2.2.2.2.1 BL,Ku.yV I5.o.r (by decide) (by decide) (by decide) g5⟩
theorem JN (B g i:Nat) (s:Y_) (ps:List Pu.aJ) (d:Bool) (vp:V_) (qs:List (Pu.aJ × V_)) (va:V_) (a:aK) (sign:Int) (w:W_) (h:Rd B g s i ps d vp qs w) (hok:iU ps) (hl:ps.length<=1000) (ha:Pm w va a) (oa:mI ps.length a) (hs:sign=42\/sign=43\/sign=63) :
  C_ 162 #[p_ g,va,I_ sign] w (RQ B g s i d (Pu.repeated a sign ps) w):=by
 obtain⟨af,nf,cf,al,nl,cl,rfl,a1,a2⟩:=ha;have OA:=bK oa;clear oa;obtain⟨ea,aP,ym⟩:=a;simp only at a1 a2;have BL:=h.lt;have TB:=bK (Cc w 83 [.bool ea,.slice af nf cf,.slice al nl cl] [.bool false,n_,n_]);have BE:Hid (B_ w ((w.alloc (c_ #[.bool ea,.slice af nf cf,.slice al nl cl] 83)).alloc (c_ #[.bool false,n_,n_] 83))):=((Br_ w.heap.size w).alloc di _).alloc (by simp) _;have H0:=bK (h.below BE.o);have A1:=bK (a1.below BE.o);have A2:=bK (a2.below BE.o);have OK:=bK hok;have KB:Hid (Rk B w ((w.alloc (c_ #[.bool ea,.slice af nf cf,.slice al nl cl] 83)).alloc (c_ #[.bool false,n_,n_] 83))):=.below BL BE.o;clear h hok a1 a2 BE;by_cases h63:sign=63
 focus subst h63
 rotate_left
 focus
  have n63:(sign != 63)=true:=by simpa using h63
  have x1:=bP 1 TB.o.1 rfl;have x2:=bP 2 TB.o.1 rfl
 rotate_left
 all_goals
  go_enter Tryz.func162,Tryz.ntmps162
 focus go_upto_region 3 with (fail)
 rotate_left
 focus go_wp2_with fail
 rotate_left
 all_goals
  generalize (w.alloc (c_ #[.bool ea,.slice af nf cf,.slice al nl cl] 83)).alloc (c_ #[.bool false,n_,n_] 83)=W0 at *
 .have x0:=bP 0 TB.o.1 rfl;have x1:=bP 1 TB.o.1 rfl;have x2:=bP 2 TB.o.1 rfl;have z0:=bP 0 TB.o.2 rfl;have z1:=bP 1 TB.o.2 rfl;have z2:=bP 2 TB.o.2 rfl;have f0:=bL TB.o.2 0;have f1:=bL TB.o.2 1;have f2:=bL TB.o.2 2;have g5:=iP W0 (w.heap.size+1) (.bool true) (.slice af nf cf) (.slice al nl cl);have VQ:=ja TB.o.2 (.bool true) (.slice af nf cf) (.slice al nl cl);have ld:=nG VQ
  have KF:Hid (RQ B g s i d (Pu.repeated ⟨ea,aP,ym⟩ 63 ps) w (.returned (.agg #[.bool true,.slice af nf cf,.slice al nl cl])) (((W0.setCell (a_ (w.heap.size+1) 0) (.bool true)).setCell (a_ (w.heap.size+1) 1) (.slice af nf cf)).setCell (a_ (w.heap.size+1) 2) (.slice al nl cl))):=
   ⟨_,_,_,rfl,⟨_,_,_,_,_,_,by simp [Pu.repeated],dI A1.o TB.o.2 (by decide) g5,dI A2.o TB.o.2 (by decide) g5⟩,KB.o.fresh g5 (by omega) BL,by
    have:=H0.o.yV TB.o.2 (by decide) (by decide) (by decide) g5
    simpa [Pu.repeated] using this⟩
  clear g5 VQ;cases ea
  all_goals
   go_wp2;exact br_ (v:=.agg #[.bool true,.slice af nf cf,.slice al nl cl]) (by simp [results,Tryz.results162,asAddr,ld]) rfl KF.o
 .refine (MG B g i s ps d vp qs _ _ ym aP W0 H0.o OK.o hl A2.o A1.o OA.o.2 OA.o.1).mono ?_
  clear x1 x2;rintro e w1 ⟨rfl,OG,qs1,k1,r1⟩;have XA:=bK (k1.fA TB.o.1 (by decide) (by decide));have XR:=bK (k1.fA TB.o.2 (by decide) (by decide));have N1:=bK (k1.jF A1.o);have N2:=bK (k1.jF A2.o);have R1:=bK r1;have K1:=bK (KB.o.trans k1);clear TB H0 A1 A2 OK KB k1 r1 OA;have x0:=bP 0 XA.o rfl;have x1:=bP 1 XA.o rfl;have x2:=bP 2 XA.o rfl;have z0:=bP 0 XR.o rfl;have z1:=bP 1 XR.o rfl;have z2:=bP 2 XR.o rfl;have f0:=bL XR.o 0;have f1:=bL XR.o 1;have f2:=bL XR.o 2;have KF:Hid (∀c:Bool,c=(ea || decide (sign≠43))->(loadVar 83 (a_ (w.heap.size+1) 0)).run Tryz.prog (((w1.setCell (a_ (w.heap.size+1) 0) (.bool c)).setCell (a_ (w.heap.size+1) 1) (.slice af nf cf)).setCell (a_ (w.heap.size+1) 2) (.slice al nl cl))=.ok (.agg #[.bool c,.slice af nf cf,.slice al nl cl]) (((w1.setCell (a_ (w.heap.size+1) 0) (.bool c)).setCell (a_ (w.heap.size+1) 1) (.slice af nf cf)).setCell (a_ (w.heap.size+1) 2) (.slice al nl cl))/\RQ B g s i d (Pu.repeated ⟨ea,aP,ym⟩ sign ps) w (.returned (.agg #[.bool c,.slice af nf cf,.slice al nl cl])) (((w1.setCell (a_ (w.heap.size+1) 0) (.bool c)).setCell (a_ (w.heap.size+1) 1) (.slice af nf cf)).setCell (a_ (w.heap.size+1) 2) (.slice al nl cl))):=fun c hc=>by have g5:=iP w1 (w.heap.size+1) (.bool c) (.slice af nf cf) (.slice al nl cl);refine⟨nG (ja XR.o _ _ _),_,OG,qs1,rfl,⟨_,_,_,_,_,_,by rw [hc];rfl,dI N1.o XR.o (by decide) g5,dI N2.o XR.o (by decide) g5⟩,K1.o.fresh g5 (by omega) BL,?_⟩;have:=R1.o.yV XR.o (by decide) (by decide) (by decide) g5;unfold Pu.repeated;simp only [h63,if_false];exact this
  have h2:sign=42\/sign=43:=by omega
  rcases h2 with rfl | rfl
  all_goals
   cases ea
   all_goals
    go_wp2;obtain⟨ld,rt⟩:=KF.o _ rfl;exact br_ (by simp [results,Tryz.results162,asAddr];first | exact ld | (simp at ld;exact ld)) rfl rt
namespace Pu
theorem P.le {s:Y_} {t:aH} {i j:Nat} {a:aM} {D:Bool} (h:P s t i j a D) (hi:i<=s.size) (w:Int) (hw:Nst s t i w):j<=s.size:=(h.goes w 0 0 (Int.le_refl _) hw).le.2 hi
theorem aI.le {s:Y_} {t:aG} {i k:Nat} (h:aI s t i k) (hi:i<=s.size) (w:Int) (hw:Fst s t i w):k<=s.size:=by obtain⟨r,g,_⟩:=h.jc hi w 0 0 (Int.le_refl _) hw;exact g.le.2 hi
end Pu
def uj (B g:Nat) (s:Y_) (i:Nat) (nt:aH) (nf:aG) (d:Bool) (ps:List Pu.aJ) (w:W_) (e:Ending) (w':W_):Prop:=
 (∃j re D v vp qs,Pu.P s nt i j re D/\e=.returned (.tuple #[v,.bool true])/\Pm w' v (Pu.part re ps).1/\Rk B w w'/\Rd B g s j (Pu.part re ps).2 (d || D) vp qs w')\/
 (∃k a ps' d' v vp qs,Pu.aI s nf i k/\e=.returned (.tuple #[v,.bool false])/\Pm w' v a/\mI ps'.length a/\iU ps'/\(ps.length<=ps'.length/\ps'.length<=k)/\Rk B w w'/\Rd B g s k ps' d' vp qs w')
theorem Jk {B g j gR:Nat} {s:Y_} {ps:List Pu.aJ} {d:Bool} {vp:V_} {qs:List (Pu.aJ × V_)} {w W:W_} {x y z:V_} {v:V_} {a:aK} (rk:Rk B w W) (rd:Rd B g s j ps d vp qs W) (hb:dh W gR 83 [x,y,z]) (hr:w.heap.size<=gR) (BL:B<=w.heap.size) (pm:Pm W v a) :
  ∃af nf cf al nl cl,v=.agg #[.bool a.empty,.slice af nf cf,.slice al nl cl]/\
   (loadVar 83 (a_ gR 0)).run Tryz.prog (((W.setCell (a_ gR 0) (.bool a.empty)).setCell (a_ gR 1) (.slice af nf cf)).setCell (a_ gR 2) (.slice al nl cl))=.ok v (((W.setCell (a_ gR 0) (.bool a.empty)).setCell (a_ gR 1) (.slice af nf cf)).setCell (a_ gR 2) (.slice al nl cl))/\
   Pm (((W.setCell (a_ gR 0) (.bool a.empty)).setCell (a_ gR 1) (.slice af nf cf)).setCell (a_ gR 2) (.slice al nl cl)) v a/\
   Rk B w (((W.setCell (a_ gR 0) (.bool a.empty)).setCell (a_ gR 1) (.slice af nf cf)).setCell (a_ gR 2) (.slice al nl cl))/\
   Rd B g s j ps d vp qs (((W.setCell (a_ gR 0) (.bool a.empty)).setCell (a_ gR 1) (.slice af nf cf)).setCell (a_ gR 2) (.slice al nl cl)):=by
 obtain⟨af,nf,cf,al,nl,cl,rfl,h1,h2⟩:=pm;have g5:=iP W gR (.bool a.empty) (.slice af nf cf) (.slice al nl cl);exact⟨af,nf,cf,al,nl,cl,rfl,nG (ja hb _ _ _),⟨_,_,_,_,_,_,rfl,dI h1 hb (by decide) g5,dI h2 hb (by decide) g5⟩,rk.fresh g5 hr BL,rd.yV hb (by decide) (by decide) (by decide) g5⟩
def ptZ:aK:=⟨false,[],[]⟩
theorem JI (n:Nat):mI n ptZ:=⟨.nil _,.nil _⟩
theorem JH (W:W_):Pm W (.agg #[.bool false,n_,n_]) ptZ:=⟨_,_,_,_,_,_,rfl,ed.nil _,ed.nil _⟩
theorem LC (B g i:Nat) (s:Y_) (ps:List Pu.aJ) (d:Bool) (vp:V_) (qs:List (Pu.aJ × V_)) (w:W_) (h:Rd B g s i ps d vp qs w) (hok:iU ps) (hl:ps.length<=i) (hi:i<=s.size) (hs:s.size<=400) (ui:Pu.dG s i=92) :
  C_ 166 #[p_ g] w (uj B g s i .atom .atom d ps w):=by
 have BL:=h.lt;have XR:Hid (dh (w.alloc (c_ #[.bool false,n_,n_] 83)) w.heap.size 83 [.bool false,n_,n_]):=hn_ _ _;have H0:=bK (h.below ((Br_ w.heap.size w).alloc di (c_ #[.bool false,n_,n_] 83)));have K0:Hid (Rk B w (w.alloc (c_ #[.bool false,n_,n_] 83))):=.alloc BL _;have OK:=bK hok;clear h hok;by_cases hk:gu (Pu.dG s (i+1))
 focus
  obtain⟨v,hv⟩:=hk.wP;have PP:Hid (Pu.P s .atom i (i+2) (.pl (jf v)) false):=.wP ui hv;have ES:=bK (fun w1 (h1:Rb w1 g s i vp d)=>Ie g i s vp d v w1 h1 (by omega) ui hv);clear hk hv ui
 rotate_left
 focus
  have PP:Hid (Pu.aI s .atom i (i+1)):=.wP ui hk;have ES:=bK (fun w1 (h1:Rb w1 g s i vp d)=>Ic g i s vp d w1 h1 (by omega) ui hk);clear hk ui
 rotate_left
 all_goals
  go_enter Tryz.func166,Tryz.ntmps166
  go_wp2_with fail
  generalize w.alloc (c_ #[.bool false,n_,n_] 83)=W0 at *;refine (ES.o W0 H0.o.rb).mono ?_
  clear ES;rintro e w1 ⟨rfl,hg1,hr1⟩;have R1:=bK (H0.o.eP hg1 hr1);have K1:=bK (K0.o.trans (H0.o.rk hg1));have X1:=bK ((H0.o.rk hg1).fA XR.o (by decide) (by decide));clear hg1 hr1 H0 K0 XR
 .go_wp2_with fail
  refine (ET v w1).mono ?_
  rintro e w2 ⟨rfl,hb2⟩;have R2:=bK (R1.o.below hb2);have K2:=bK (K1.o.trans (.below R1.o.lt hb2));have X2:=bK (bN X1.o hb2 (bO X1.o));clear hb2 R1 K1 X1
  go_wp2_with fail
  refine (zL B g (i+2) s ps d vp qs (jf v) w2 R2.o (by omega)).mono ?_
  intro e w3 hq;obtain⟨v3,Rl,Xf,rfl,pm3,k3,r3⟩:=hq.pm;have K3:=bK (K2.o.trans k3);have X3:=bK (k3.fA X2.o (by decide) (by decide));have z0:=bP 0 X3.o rfl;have z1:=bP 1 X3.o rfl;have z2:=bP 2 X3.o rfl;have f0:=bL X3.o 0;have f1:=bL X3.o 1;have f2:=bL X3.o 2;obtain⟨af,nf,cf,al,nl,cl,rfl,ld,Co,Ct,Cq⟩:=Jk K3.o r3 X3.o di BL pm3;have PF1:=bK Co;have RF:=bK Cq;have KF:=bK Ct;clear hq pm3 k3 r3 R2 K2 X2 Co Ct Cq;go_wp2;refine br_ (v:=.tuple #[.agg #[.bool (Pu.vQ (jf v) ps).1.empty,.slice af nf cf,.slice al nl cl],.bool true]) (by simp [results,Tryz.results166,asAddr,Result.andThen,ld]) rfl ?_
  exact .inl ⟨i+2,_,false,_,_,_,PP.o,rfl,PF1.o,KF.o,by rw [Bool.or_false];exact RF.o⟩
 .have z0:=bP 0 X1.o rfl;have z1:=bP 1 X1.o rfl;have z2:=bP 2 X1.o rfl;have f0:=bL X1.o 0;have f1:=bL X1.o 1;have f2:=bL X1.o 2;obtain⟨af,nf,cf,al,nl,cl,hv,ld,Co,Ct,Cq⟩:=Jk K1.o R1.o X1.o di BL (JH w1);cases hv;simp only [show ptZ.empty=false from rfl] at ld Co Ct Cq;have PF1:=bK Co;have RF:=bK Cq;have KF:=bK Ct;clear Co Ct Cq;go_wp2;refine br_ (v:=.tuple #[.agg #[.bool false,n_,n_],.bool false]) (by simp [results,Tryz.results166,asAddr,Result.andThen,ld]) rfl ?_
  exact .inr ⟨i+1,ptZ,ps,d,_,_,_,PP.o,rfl,PF1.o,JI _,OK.o,⟨di,by omega⟩,KF.o,RF.o⟩
end Go.Proofs.YtmccnmgaoppogaaGreat
