import Derived.Test.YtmccnmgaoppogabGreatuY5
namespace Go.Proofs.YtmccnmgaoppogabGreat
open Pu
set_option linter.all false
open Go.Proofs.Tryz Tryz
set_option maxRecDepth 100000
set_option maxHeartbeats 8000000
open Go.RowKit
theorem Pu.Gr{E:bI}{C D:bJ}:(Pu.look E C=.go D->D.lN=C.lN/\D.jy=C.jy)/\(∀e,Pu.look E C=.stop D e->D.lN=C.lN/\D.jy=C.jy):=by
 unfold Pu.look;simp only;refine⟨fun h=>?_,fun e h=>?_⟩;all_goals
  repeat' split at h
  all_goals first | cases h;exact⟨rfl,rfl⟩ | cases h
theorem Pu.qJ.still{E:bI}{f:Nat->Int}(g:Pu.Good E f){C D:bJ}(r:qJ E C D)(h:wY E f C):C.pos<=D.pos/\(D.pos=C.pos->D.err=0->D.lN=C.lN/\D.jy=C.jy):=by
 induction r with
 | refl=>exact⟨Int.le_refl _,fun _ _=>⟨rfl,rfl⟩⟩
 | @step G F v a b=>
  have j:=v.inv g h;unfold zQ at a;split at a
  .cases a
  .rename_i s;have d:G.err=0:=by
    by_cases e:G.err=0
    .exact e
    .exact absurd (.inl e) s
   cases hl:Pu.look E G with
   | wait=>rw[hl]at a;cases a
   | go c=>rw[hl]at a;cases a;have q:=ze g j d hl;have k:=Pu.Gr.1 hl;refine⟨by rw[q.2.2.1];exact b.1,fun l _=>?_⟩;have:=b.2 (by rw[<-q.2.2.1];exact l) d;exact⟨k.1.trans this.1,k.2.trans this.2⟩
   | stop c e=>
    rw[hl]at a;cases a;have q:=sO g j d hl;unfold Pu.take;split
    .refine⟨by show C.pos<=c.pos;rw[q.2.1];exact b.1,fun _ i=>?_⟩;exact absurd i y_
    .split
     .refine⟨by show C.pos<=c.pos;rw[q.2.1];exact b.1,fun _ i=>?_⟩;exact absurd i y_
     .rename_i u x;have t:=uj g q.1 o_;have:=b.1;exact⟨by have:=t.2.2.1;omega,fun l _=>by have:=t.2.2.1;omega⟩
theorem YZ{E:bI}{f:Nat->Int}(g:Pu.Good E f):wY E f (rP E.p):=by
 have a:Pu.Good (xR E.p E.most E.depth) f:=⟨g.right,g.most,g.depth,g.f0,g.f1⟩;have h:=(akk a).on E.s E.ended;have e:(xR E.p E.most E.depth).on E.s E.ended=E:=by
  unfold bI.on xR;have:fJ++E.s=E.s:=by apply ByteArray.ext;simp[fJ]
  simp only[this]
 rw[e]at h;exact h
section
variable {B:Nat} {w0:W_} {gr gs:Nat} {E:bI} {z:oU} {rest:List V_} {C D:bJ} {iJ iD:V_} {W W':W_}
theorem TR.fD(h:TR B w0 gr gs E z rest C iJ iD W)(f:RM W' gr gs E z rest D iJ iD)(a:W.grownBy W' (some gr))(b:D.jy=C.jy)(c:D.lN=C.lN)(d:D.dU=C.dU):TR B w0 gr gs E z rest D iJ iD W':=
 ⟨f,by rw[b,c];exact dO h.st h.m.fB d_ a,by rw[d];exact dO h.aZ h.m.fB d_ a,h.lo,xM h.be h.sz a (fun g e=>by cases e;exact h.hB),h.hB⟩
end
section
variable {B:Nat} {w0:W_} {gr gs:Nat} {E:bI} {z:oU} {rest:List V_} {C:bJ} {iJ iD:V_} {W:W_}
theorem TR.sought(h:TR B w0 gr gs E z rest C iJ iD W){e:Nat}{ys:List V_}(q:dh W e 232 ys)(r:ys.length=4)(f:gr≠e)(g:gs≠e)(i:B<=e)(a b c d:V_) :
  TR B w0 gr gs E z rest C iJ iD ((((W.setCell (a_ e 0) a).setCell (a_ e 1) b).setCell (a_ e 2) c).setCell (a_ e 3) d)/\dh ((((W.setCell (a_ e 0) a).setCell (a_ e 1) b).setCell (a_ e 2) c).setCell (a_ e 3) d) e 232 [a,b,c,d]:=by
 match ys,r with
 | [y0,y1,y2,y3],_=>have s:=h.o q d_ d_ d_ d_ f g i 0 a;have j:=cK q 0 a;have t:=s.o j d_ d_ d_ d_ f g i 1 b;have k:=cK j 1 b;have u:=t.o k d_ d_ d_ d_ f g i 2 c;have l:=cK k 2 c;exact⟨u.o l d_ d_ d_ d_ f g i 3 d,cK l 3 d⟩
end
def ZY(gs:Nat)(E:bI)(z:oU)(rest:List V_)(w:W_)(e:Ending)(w':W_):Prop:=
 ∃D iJ iD,rW E (rP E.p) D/\e=.returned (p_ w.heap.size)/\TR w.heap.size w w.heap.size gs E z rest D iJ iD w'
structure afn(f:Nat->Int)(gs:Nat)(E:bI)(z:oU)(rest:List V_)(w:W_)(D:bJ)(iJ iD:V_)(W:W_):Prop where
 r:qJ E (rP E.p) D
 sta:wY E f D
 fresh:D.err=0->D.ins=Pu.aU E.p.ents D.mode.toNat/\D.c=0/\D.looked=0/\D.rule=0/\D.marked=0
 t:TR w.heap.size w w.heap.size gs E z rest D iJ iD W
def Rf(E:bI)(D:bJ):Nat:=(E.s.size-D.pos.toNat)+(if D.err=0 then 1 else 0)
theorem Wh(f:Nat->Int)(gs:Nat)(E:bI)(z:oU)(rest:List V_)(w:W_)(V:Pu.Good E f)(hs:E.s.size<=1099511627776)(X:dh w gs 105 (kJ E z rest))(Y:LX w E.p z) :
  Calls prog 82 #[p_ gs] w (ZY gs E z rest w):=by
 have gl:=bP X;have e0:z.st (rP E.p)=0:=by unfold oU.st;cases z.b <;> rfl
 have a:Hid (afn f gs E z rest w (rP E.p) n_ n_ (w.alloc (c_ #[p_ gs,I_ 0,I_ 1,I_ 1,I_ 0,n_,I_ 0,n_,I_ 0] 190))):=
  ⟨.refl _,YZ V,fun _=>⟨rfl,rfl,rfl,rfl,rfl⟩,⟨⟨by unfold jO;rw[e0];exact hn_ w _,cO X _,Y.below (kM _)⟩,iR _ _ _ _,iR _ _ _ _,Y.lo,kM _,dF⟩⟩
 have i:=bL V;have Z:=bL hs;have ngs:gs≠w.heap.size:=o_;clear V hs X Y;go_in;go_wp2_with fail;generalize w.alloc (c_ #[p_ gs,I_ 0,I_ 1,I_ 1,I_ 0,n_,I_ 0,n_,I_ 0] 190)=W0 at *;go_loopg [] (Rf E (rP E.p)) (fun gk wr=>∃D iJ iD,gk=Rf E D/\afn f gs E z rest w D iJ iD wr);exact⟨_,_,_,rfl,a.o⟩;clear a;obtain⟨D,iJ,iD,rfl,c⟩:=hrel;have a:=bL c;have c1:=bQ 1 c.t.m.fB rfl;have y:=bQ 8 c.t.m.fB rfl;have s6:=bQ 6 c.t.m.scn rfl;have hp0:=c.sta.pos;clear c;by_cases hp:D.pos<E.s.size
 .by_cases u:D.err=0
  .rw [u]at y;go_wp2_with fail;go_quiet (fail);have k:=bL ((a.o.t.drewN nq).alloc (c_ #[.bool false,I_ 0,I_ 0,I_ 0] 232));have J:Hid (dh ((wr.drewN nq).alloc (c_ #[.bool false,I_ 0,I_ 0,I_ 0] 232)) wr.heap.size 232 (Ue false 0 0 0)):=hn_ (wr.drewN nq) _;have g:=bQ 3 k.o.m.scn rfl;have c:=a.o.fresh u;have e:=bL (fun W m=>Uf f w.heap.size gs E z rest D iJ iD W i.o a.o.sta u hp Z.o m c);clear c1 y s6;rcases k.o.m.l with ⟨ve,vr,vc,rfl,_⟩ | ⟨gT,rfl,_⟩;all_goals
    go_wp2_with fail;refine (e.o _ k.o.m).mono ?_;clear e g c;have wrl:=bP a.o.t.m.fB;have wrs:=bP a.o.t.m.scn;have H:wr.heap.size≠w.heap.size:=o_;have uC:w.heap.size≠wr.heap.size:=o_;have Ij:gs≠wr.heap.size:=o_;rintro e w1 ⟨F,s,L,l,b,(⟨rfl,r,d⟩ | ⟨G,T,rfl,r,d⟩)⟩;rotate_left;have q:=sO i.o (s.inv i.o a.o.sta) L r;rotate_left;all_goals
     have x:=(s.still i.o a.o.sta).2 l L;have O:=(s.quiet i.o a.o.sta).2 l L
    have K:=bL (k.o.fD d b x.2 x.1 O);have c:=bL (bR J.o b (fun e=>H (oi_ e)));have g:Hid (rW E (rP E.p) F):=⟨a.o.r.trans s,abY r⟩;clear d b x O r s k J;rotate_left;have j:=Pu.Gr.2 T r;have K:=bL (k.o.fD d b (j.2.trans x.2) (j.1.trans x.1) (q.2.2.2.2.2.trans O));have c:=bL (bR J.o b (fun e=>H (oi_ e)));have g:Hid (qJ E (rP E.p) (Pu.take E G T)):=.step (a.o.r.trans s) (abW L o_ r);have S:=bL (g.o.inv i.o (YZ i.o));have I:=bL q.1;have R:Hid (G.pos=D.pos):=q.2.1.trans l;have U:=q.2.2.2.1;clear d b x O j r s k J q;rotate_left;all_goals
     have y0:=bQ 0 c.o rfl;have y1:=bQ 1 c.o rfl;have y2:=bQ 2 c.o rfl;have y3:=bQ 3 c.o rfl;have j0:=bM c.o 0;have j1:=bM c.o 1;have j2:=bM c.o 2;have j3:=bM c.o 3
    .have j:=bL (K.o.sought c.o rfl uC Ij o_ (.bool true) (I_ 0) (I_ F.rule) (I_ F.marked)).1;go_wp2;go_ret;exact⟨F,iJ,iD,g.o,rfl,j.o⟩
    .have j:=bL (K.o.sought c.o rfl uC Ij o_ (.bool false) (I_ T) (I_ G.rule) (I_ G.marked));have y:=bQ 8 j.o.1.m.fB rfl;have f8:=bM j.o.1.m.fB 8;have Q:Hid (Rf E D=(E.s.size-D.pos.toNat)+1):=by show Rf E D=_;unfold Rf;rw[if_pos u]
     rcases U with rfl | rfl
     .by_cases q:G.marked=0
      .have v:Hid (Pu.take E G 0={ G with err:=4 }):=by
        show _=_;have z:Pu.wrong E.p E.depth G=4:=by unfold Pu.wrong;rw[if_pos q]
        unfold Pu.take;rw[if_neg o_,z,if_pos o_]
       have t:=bL (j.o.1.set 8 (I_ 4) (D:={ G with err:=4 }) rfl rfl rfl rfl);rw[q]at t y f8 |-;go_wp2;go_roundg (Rf E { G with err:=4 })
       exact⟨{ G with err:=4 },iJ,iD,rfl,by rw[<-v.o];exact g.o,by rw[<-v.o];exact S.o,fun h=>absurd (show (4:Int)=0 from h) d_,t.o.Pg rfl rfl rfl rfl⟩;have:=R.o;rw[Q.o];unfold Rf;simp only;rw[if_neg o_];omega
      .have d3:(G.marked == 0)=false:=by simpa using q
       go_wp2_with fail;refine (acO f w.heap.size w w.heap.size gs E _ rest G iJ iD _ i.o I.o (by have:=I.o.marked;omega) I.o.err Z.o j.o.1).mono ?_;rintro e w3 ⟨rfl,QG,Ej,A⟩;have t:=bL A;have MS:Hid (Rf E (Pu.take E G 0)<Rf E D):=by
        show Rf E (Pu.take E G 0)<Rf E D;rw[Q.o];have hp':=R.o;unfold Rf Pu.take;rw[if_neg o_];by_cases v:Pu.wrong E.p E.depth G=0
        .rw [if_neg o_];have N:=uj i.o I.o v;have:=N.1.within;have:=N.1.looked;rw[if_pos N.2.1];have:=N.2.2.1;omega
        .rw [if_pos v];simp only;rw[if_neg v];omega
       have N:Hid ((Pu.take E G 0).err=0->(Pu.take E G 0).ins=Pu.aU E.p.ents (Pu.take E G 0).mode.toNat/\(Pu.take E G 0).c=0/\(Pu.take E G 0).looked=0/\(Pu.take E G 0).rule=0/\(Pu.take E G 0).marked=0):=by
        show _->_;unfold Pu.take;rw[if_neg o_];by_cases v:Pu.wrong E.p E.depth G=0
        .rw [if_neg o_];exact fun _=>⟨rfl,rfl,rfl,rfl,rfl⟩
        .rw [if_pos v];exact fun h=>absurd h v
       clear A j K c y0 y1 y2 y3 y f8 j0 j1 j2 j3;go_wp2;go_roundg (Rf E (Pu.take E G 0));exact⟨_,QG,Ej,rfl,g.o,S.o,N.o,t.o⟩;exact MS.o
     .have v:Hid (Pu.take E G 5={ G with err:=5 }):=by show _=_;unfold Pu.take;rw[if_pos o_]
      have t:=bL (j.o.1.set 8 (I_ 5) (D:={ G with err:=5 }) rfl rfl rfl rfl);go_wp2;go_roundg (Rf E { G with err:=5 });exact⟨{ G with err:=5 },iJ,iD,rfl,by rw[<-v.o];exact g.o,by rw[<-v.o];exact S.o,fun h=>absurd (show (5:Int)=0 from h) d_,t.o⟩;have:=R.o;rw[Q.o];unfold Rf;simp only;rw[if_neg o_];omega
  .have c:(D.err == 0)=false:=by simpa using u
   have g:Hid (rW E (rP E.p) D):=⟨a.o.r,AP u⟩;go_wp2_with fail;go_quiet (fail);go_wp2;go_ret;exact⟨D,iJ,iD,g.o,rfl,a.o.t.drewN _⟩
 .have c:decide (D.pos<(E.s.size:Int))=false:=dn_ hp;have g:Hid (rW E (rP E.p) D):=⟨a.o.r,by unfold zQ;rw[if_pos o_]⟩;go_wp2_with fail;go_quiet (fail);go_wp2;go_ret;exact⟨D,iJ,iD,g.o,rfl,a.o.t.drewN _⟩
def um:bK:=⟨0,0,0,0,0⟩
theorem yK(l:List bK):∀(i:Nat),i<l.length->(fw l)[i*5]?=some (I_ (l.getD i um).rule)/\(fw l)[i*5+1]?=some (I_ (l.getD i um).pos)/\(fw l)[i*5+2]?=some (I_ (l.getD i um).len)/\(fw l)[i*5+3]?=some (I_ (l.getD i um).line)/\(fw l)[i*5+4]?=some (I_ (l.getD i um).iU):=by
 induction l with
 | nil=>intro i h;simp at h
 | cons x r b=>
  intro i h;have c:fw (x::r)=I_ x.rule::I_ x.pos::I_ x.len::I_ x.line::I_ x.iU::fw r:=by simp[fw]
  rw[c];cases i with
  | zero=>simp
  | succ i=>
   have:=b i (by simpa using h);have e:∀j,(i+1)*5+j=(i*5+j)+1+1+1+1+1:=fun j=>by omega
   have a:(i+1)*5=(i*5)+1+1+1+1+1:=o_;rw[e,e,e,e,a];simpa using this
theorem acN(l:List bK)(i:Nat)(h:i<l.length)(a:Nat)(b:a<=i):(l.drop a).take (i+1-a)=(l.drop a).take (i-a)++[l.getD i um]:=by rw[(o_:i+1-a=(i-a)+1),List.take_add_one];congr 1;rw[List.getElem?_drop,(o_:a+(i-a)=i),gg_ h,gd_,gg_ h];rfl
def zw(E:bI)(D:bJ):Int:=if D.err≠0 then 0 else E.s.size-D.pos
def Gy(E:bI)(z:oU)(D:bJ):List V_:=[I_ D.pos,I_ D.line,I_ D.iU,I_ D.mode,I_ D.jy,I_ (zw E D),I_ (z.st D)]
def uV(E:bI)(z:oU)(D:bJ):List V_:=[I_ D.dU.length,I_ D.err]++Gy E z D
def adB(gs:Nat)(E:bI)(z:oU)(a:Nat)(w:W_)(e:Ending)(w':W_):Prop:=
 ∃D vo,rW E (rP E.p) D/\e=.returned (.tuple #[vo,I_ D.err])/\w'.ownsRow w.heap.size 67 5 vo (D.dU.length-a) (fw (D.dU.drop a))/\dh w' gs 105 (kJ E z (uV E z D))/\LX w' E.p z/\w.grownBy w' (some gs)
structure DN(w:W_)(gs gr:Nat)(p:lZ)(z:oU)(cells rcells:List V_)(vo:V_)(n:Nat)(xs:List V_)(W:W_):Prop where
 b:dh W gs 105 cells
 r:dh W gr 190 rcells
 l:LX W p z
 o:W.ownsRow w.heap.size 67 5 vo n xs
 g:w.grownBy W (some gs)
 ne:gs≠gr
section
variable {w:W_} {gs gr:Nat} {p:lZ} {z:oU} {cells rcells:List V_} {vo:V_} {n:Nat} {xs:List V_} {W:W_}
theorem DN.set(h:DN w gs gr p z cells rcells vo n xs W)(j:Nat)(u:V_):DN w gs gr p z (cells.set j u) rcells vo n xs (W.setCell (a_ gs j) u):=by have a:=gs_ W gs j u;exact⟨cK h.b j u,bU h.r (fun e=>h.ne e.symm) j u,h.l.on h.b d_ d_ d_ a,dO h.o h.b d_ a,eU h.g j u,h.ne⟩
theorem DN.drewN(h:DN w gs gr p z cells rcells vo n xs W)(k:Nat):DN w gs gr p z cells rcells vo n xs (W.drewN k):=
 ⟨h.b,h.r,h.l.below (bd_ (Br_ _ _) k),iW h.o k,lu h.g k,h.ne⟩
theorem DN.drew(h:DN w gs gr p z cells rcells vo n xs W):DN w gs gr p z cells rcells vo n xs W.drew:=
 ⟨h.b,h.r,h.l.below (Br_ _ _).drew,iW h.o 1,tH h.g,h.ne⟩
end
theorem J9(f:Nat->Int)(gs:Nat)(E:bI)(z:oU)(a:Nat)(J n0 n1 n2 n3 n4 n5 n6:V_)(w:W_)(gd:Pu.Good E f)(hs:E.s.size<=1099511627776)(hgv:a<=1099511627776)(hb:dh w gs 105 (kJ E z [I_ a,J,n0,n1,n2,n3,n4,n5,n6]))(hl:LX w E.p z) :
  Calls prog 57 #[p_ gs] w (adB gs E z a w):=by
 obtain⟨aS,hi,hz0,hz1,hz2⟩:=ip_ info67;have b:=bL (Wh f gs E z [I_ a,J,n0,n1,n2,n3,n4,n5,n6] w gd hs hb hl);have GD:=bL gd;have HS:=bL hs;clear gd hs;have ngs:=bP hb;clear hb hl;go_in;go_wp2_with fail;refine b.o.mono ?_;clear b;rintro e y ⟨D,iJ,iD,c,rfl,b⟩;have HR:=bL c;have F:=bL b;have r:=bL (c.1.inv GD.o (YZ GD.o));have tl:D.dU.length<=1099511627776:=by have:=r.o.dU;have:=r.o.within;have:=r.o.looked;have:=HS.o;omega
 obtain⟨H,ct,rfl,ht1,ht2⟩:=lG b.aZ;obtain⟨G,I,rfl,hc1,hc2⟩:=lG b.st;have k:=bQ 8 b.m.scn rfl;have d:Hid (B_ y y):=Br_ _ _;clear c b;go_wp2_with fail;go_loopg [5,6] (D.dU.length-a) (fun gk c b wr=>∃(i:Nat) (vo:V_),vo=c/\a<=i/\(i<=D.dU.length\/i=a)/\b=I_ i/\gk=D.dU.length-i/\B_ y wr/\wr.ownsRow y.heap.size 67 5 vo (i-a) (fw ((D.dU.drop a).take (i-a))));exact⟨a,_,rfl,dF,.inr rfl,rfl,rfl,d.o,by rw[Nat.sub_self];exact iR _ _ _ _⟩;clear d k;obtain⟨i,vo,rfl,yV,hi2,rfl,rfl,l,g⟩:=hrel;have HB:=bL l;have A:=bL g;have c:=F.o.below l;have c7:=bQ 7 c.m.fB rfl;by_cases s:i<D.dU.length
 .obtain⟨b,K,O,-,-⟩:=dL c.aZ o_;cases O;have q:=yK D.dU i s;have aW:=bV c.aZ q.1;have U:=bV c.aZ q.2.1;have V:=bV c.aZ q.2.2.1;have X:=bV c.aZ q.2.2.2.1;have Y:=bV c.aZ q.2.2.2.2;have L:=(iN c.aZ).2;have Q:=bP c.m.fB;have N:=l.size;have x:(i:Int)<D.dU.length:=o_;have t:=bL (acN D.dU i s a yV);generalize D.dU.getD i um=aZ at *;have ne1:b≠wr.heap.size:=o_;have uC:w.heap.size≠wr.heap.size:=o_;have R:wr.heap.size≠b:=o_;have T:wr.heap.size≠w.heap.size:=o_;clear q c l g;go_wp2_with (at_builtin;refine wo_ _ rfl (.tmp 22) (.tmp 30) 65 rfl y.heap.size 67 aS (.agg #[I_ 0,I_ 0,I_ 0,I_ 0,I_ 0]) 5 40 underlying65 hi hz0 hz1 hz2 rfl d_ _ (i-a) (fw ((D.dU.drop a).take (i-a))) rfl (oa_ A.o _) (a_ wr.heap.size 0) 1 1 [I_ aZ.rule,I_ aZ.pos,I_ aZ.len,I_ aZ.line,I_ aZ.iU] rfl rfl (jc rfl) (by intro u d;simp at d;rcases d with rfl | rfl | rfl | rfl | rfl <;> rfl) (by unfold maxLen;omega) o_ (by simp;omega) ?_;intro Z wa u d _);go_roundg (D.dU.length-(i+1));refine⟨i+1,_,rfl,o_,.inl s,by go_num,rfl,?_,?_⟩
  .exact (HB.o.alloc o_ _).grown d (by simp;omega) (fun k q=>(ol_ A.o k q).1)
  .rw [t.o,uX,(o_:i+1-a=i-a+1)];exact u
  omega
 .have d1:=nI i D.dU.length;have hn:i-a=D.dU.length-a:=o_;have d:Hid (DN w gs w.heap.size E.p z (kJ E z [I_ a,J,n0,n1,n2,n3,n4,n5,n6]) (jO gs z D (.slice G D.jy.toNat I) (.slice H D.dU.length ct)) vo (D.dU.length-a) (fw (D.dU.drop a)) wr):=by
   refine⟨c.m.scn,c.m.fB,c.m.l,?_,?_,o_⟩
   .rw [hn]at g;rw[List.take_of_length_le (by rw[List.length_drop];omega)]at g;exact dH g F.o.sz
   .have b:=c.be;exact⟨b.os,b.tape,b.output,b.size,fun k q _=>b.block k q⟩
  have k:=bQ 8 d.o.b rfl;have u:=bQ 9 d.o.b rfl;have q:=bM d.o.b 8;have t:=bM d.o.b 9;have x:=bQ 8 d.o.r rfl;have b:=bL ((d.o.set 8 (I_ D.dU.length)).set 9 (I_ D.err));have ne1:gs≠w.heap.size:=o_;have uC:w.heap.size≠gs:=o_;clear c l g HB A d F;go_upto_region 9 with (fail);clear k u q t x c7;generalize (wr.setCell (a_ gs 8) (I_ D.dU.length)).setCell (a_ gs 9) (I_ D.err)=W2 at *;have r1:=bQ 1 b.o.r rfl;have r2:=bQ 2 b.o.r rfl;have r3:=bQ 3 b.o.r rfl;have r4:=bQ 4 b.o.r rfl;have r5:=bQ 5 b.o.r rfl;have r6:=bQ 6 b.o.r rfl;have K:=bQ 6 b.o.b rfl;have U:=bQ 10 b.o.b rfl;have V:=bQ 11 b.o.b rfl;have X:=bQ 12 b.o.b rfl;have Y:=bQ 13 b.o.b rfl;have Z:=bQ 14 b.o.b rfl;have t:=bQ 15 b.o.b rfl;have g16:=bQ 16 b.o.b rfl;have L:=bM b.o.b 10;have N:=bM b.o.b 11;have O:=bM b.o.b 12;have Q:=bM b.o.b 13;have R:=bM b.o.b 14;have q:=bM b.o.b 15;have T:=bM b.o.b 16;have dp:=r.o.jy;have ps:=r.o.pos;have wi:=r.o.within;have lk:=r.o.looked;have sz:=HS.o;have k:=bL (((((((b.o.set 10 (I_ D.pos)).set 11 (I_ D.line)).set 12 (I_ D.iU)).set 13 (I_ D.mode)).set 14 (I_ D.jy)).set 15 (I_ ((E.s.size:Int)-D.pos))).set 16 (I_ (z.st D))).drew;have u:Hid (max D.jy 0=D.jy):=by show _=_;omega
  have x:Hid (IntKind.i64.wrap ((E.s.size:Int)-D.pos)=(E.s.size:Int)-D.pos):=oD _ o_ o_;have S1:=bL (show (fun d:W_=>d.cell? (a_ w.heap.size 1)=some (I_ D.pos)/\d.cell? (a_ w.heap.size 2)=some (I_ D.line)/\d.cell? (a_ w.heap.size 3)=some (I_ D.iU)/\d.cell? (a_ w.heap.size 4)=some (I_ D.mode)/\d.cell? (a_ w.heap.size 5)=some (.slice G D.jy.toNat I)/\d.cell? (a_ w.heap.size 6)=some (I_ (z.st D))/\d.cell? (a_ gs 6)=some (.string E.s)) W2.drew from ⟨r1,r2,r3,r4,r5,r6,K⟩);have S3:=bL (And.intro (bN (j:=1) k.o.r rfl) (And.intro (bN (j:=2) k.o.r rfl) (And.intro (bN (j:=3) k.o.r rfl) (And.intro (bN (j:=4) k.o.r rfl) (And.intro (bN (j:=5) k.o.r rfl) (And.intro (bN (j:=6) k.o.r rfl) (bN (j:=6) k.o.b rfl)))))));clear r1 r2 r3 r4 r5 r6 K;refine wd_ (S:=fun d=>d.cell? (a_ w.heap.size 1)=some (I_ D.pos)/\d.cell? (a_ w.heap.size 2)=some (I_ D.line)/\d.cell? (a_ w.heap.size 3)=some (I_ D.iU)/\d.cell? (a_ w.heap.size 4)=some (I_ D.mode)/\d.cell? (a_ w.heap.size 5)=some (.slice G D.jy.toNat I)/\d.cell? (a_ w.heap.size 6)=some (I_ (z.st D))/\d.cell? (a_ gs 6)=some (.string E.s)) k_ S1.o (fun dK=>?_);refine cB 0 ?_;refine cB 1 ?_;refine cB 2 ?_;refine cB 3 ?_;refine cB 4 ?_;refine cB 5 ?_;refine cB 6 ?_;refine cB 7 ?_;refine cB 8 ?_;refine cB 9 ?_;refine cB 10 ?_;refine cB 11 ?_;refine cB 12 ?_;refine cB 13 ?_;refine cB 14 ?_;refine cB 15 ?_;refine cB 16 ?_;refine cB 17 ?_;refine cB 18 ?_;refine cB 19 ?_;refine cB 20 ?_;refine cB 21 ?_;refine cB 22 ?_;refine cB 23 ?_;refine cB 24 ?_;refine cB 25 ?_;refine cB 26 ?_;refine cB 27 ?_;refine cB 28 ?_;refine cB 29 ?_;refine cB 30 ?_;refine cB 31 ?_;refine cB 32 ?_;refine cB 33 ?_;refine cB 34 ?_;refine cB 35 ?_;refine cB 36 ?_;refine cB 37 ?_;refine cB 38 ?_;refine fF 39 (fun K hK=>?_);go_simp;rw[u.o,x.o];refine hK.out _ _ S3.o (fun gG=>?_);clear hK K;refine wpAnyH_done k_ ?_ _;clear dK gG S1 S3 b U V X Y Z t g16 L N O Q R q T u x;generalize (((((((W2.setCell (a_ gs 10) (I_ D.pos)).setCell (a_ gs 11) (I_ D.line)).setCell (a_ gs 12) (I_ D.iU)).setCell (a_ gs 13) (I_ D.mode)).setCell (a_ gs 14) (I_ D.jy)).setCell (a_ gs 15) (I_ ((E.s.size:Int)-D.pos))).setCell (a_ gs 16) (I_ (z.st D))).drew=N at *;have x:=bQ 8 k.o.r rfl;have t:=bQ 15 k.o.b rfl;have q:=bM k.o.b 15;by_cases d:D.err=0
  .have u:Hid (zw E D=(E.s.size:Int)-D.pos):=by show zw E D=_;unfold zw;rw[if_neg o_]
   have L:=bL d;rw[d]at x;go_wp2_with fail;go_quiet (fail);go_wp2;have b:=bL (k.o.drewN nq);generalize N.drewN nq=O at *;refine br_ (v:=.tuple #[vo,I_ 0]) (by simp[results,results57,go_sem]) rfl ⟨D,vo,HR.o,by rw[L.o],b.o.o,?_,b.o.l,b.o.g⟩;unfold uV Gy;rw[u.o];exact b.o.b
  .have u:Hid (zw E D=0):=by show zw E D=_;unfold zw;rw[if_pos d]
   have R:(D.err == 0)=false:=by simpa using d
   have L:=bL (k.o.set 15 (I_ 0));have Q:=bQ 8 L.o.r rfl;go_wp2_with fail;go_quiet (fail);go_wp2;have b:=bL (L.o.drewN nq);generalize (N.setCell (a_ gs 15) (I_ 0)).drewN nq=O at *;refine br_ (v:=.tuple #[vo,I_ D.err]) (by simp[results,results57,go_sem]) rfl ⟨D,vo,HR.o,rfl,b.o.o,?_,b.o.l,b.o.g⟩;unfold uV Gy;rw[u.o];exact b.o.b
end Go.Proofs.YtmccnmgaoppogabGreat
