import Derived.Test.YtmccnmgaoppogaaGreatKbj
namespace Go.Proofs.YtmccnmgaoppogaaGreat
open Pu
set_option linter.all false
set_option maxRecDepth 100000
set_option maxHeartbeats 8000000
open Go.RowKit
theorem Pu.Ex {E:bH} {C D:bI}:(Pu.look E C=.go D->D.kK=C.kK/\D.iW=C.iW)/\(∀e,Pu.look E C=.stop D e->D.kK=C.kK/\D.iW=C.iW):=by
 unfold Pu.look;simp only;refine⟨fun h=>?_,fun e h=>?_⟩
 all_goals
  repeat' split at h
  all_goals first | cases h;exact⟨rfl,rfl⟩ | cases h
theorem Pu.qF.still {E:bH} {f:Nat->Int} (g:Pu.Good E f) {C D:bI} (r:qF E C D) (h:wD E f C):C.pos<=D.pos/\(D.pos=C.pos->D.err=0->D.kK=C.kK/\D.iW=C.iW):=by
 induction r with
 | refl=>exact⟨Int.le_refl _,fun _ _=>⟨rfl,rfl⟩⟩
 | @step G F r1 hm ih=>
  have hG:=r1.inv g h;unfold AY at hm;split at hm
  .cases hm
  .rename_i hc
   have he:G.err=0:=by
    by_cases e:G.err=0
    .exact e
    .exact absurd (.inl e) hc
   cases hl:Pu.look E G with
   | wait=>rw [hl] at hm;cases hm
   | go F'=>rw [hl] at hm;cases hm;have q:=Da g hG he hl;have k:=Pu.Ex.1 hl;refine⟨by rw [q.2.2.1];exact ih.1,fun hp _=>?_⟩;have:=ih.2 (by rw [<-q.2.2.1];exact hp) he;exact⟨k.1.trans this.1,k.2.trans this.2⟩
   | stop F' e=>
    rw [hl] at hm;cases hm;have q:=rf g hG he hl;unfold Pu.take;split
    .refine⟨by show C.pos<=F'.pos;rw [q.2.1];exact ih.1,fun _ hz=>?_⟩;exact absurd hz (by assumption)
    .split
     .refine⟨by show C.pos<=F'.pos;rw [q.2.1];exact ih.1,fun _ hz=>?_⟩;exact absurd hz (by assumption)
     .rename_i hne hw
      have t:=sH g q.1 (by omega);have:=ih.1;exact⟨by have:=t.2.2.1;omega,fun hp _=>by have:=t.2.2.1;omega⟩
theorem Wq {E:bH} {f:Nat->Int} (g:Pu.Good E f):wD E f (rD E.p):=by
 have g0:Pu.Good (xV E.p E.most E.depth) f:=⟨g.right,g.most,g.depth,g.f0,g.f1⟩
 have h:=(ahF g0).on E.s E.ended
 have e:(xV E.p E.most E.depth).on E.s E.ended=E:=by
  unfold bH.on xV;have:fe++E.s=E.s:=by apply ByteArray.ext;simp [fe]
  simp only [this]
 rw [e] at h;exact h
namespace T
section
variable {B:Nat} {w0:W_} {gr gs:Nat} {E:bH} {ve vr vc:V_} {rest:List V_} {C D:bI} {jP jE:V_} {W W':W_}
theorem TR.eP (h:TR B w0 gr gs E ve vr vc rest C jP jE W) (hm:RM W' gr gs E ve vr vc rest D jP jE) (hg:W.grownBy W' (some gr)) (h1:D.iW=C.iW) (h2:D.kK=C.kK) (h3:D.dV=C.dV):TR B w0 gr gs E ve vr vc rest D jP jE W':=
 ⟨hm,by rw [h1,h2];exact dM h.st h.m.fA (by decide) hg,by rw [h3];exact dM h.aZ h.m.fA (by decide) hg,h.lo,wJ h.be h.sz hg (fun g e=>by cases e;exact h.hB),h.hB⟩
end
section
variable {B:Nat} {w0:W_} {gr gs:Nat} {E:bH} {ve vr vc:V_} {rest:List V_} {C:bI} {jP jE:V_} {W:W_}
theorem TR.sought (h:TR B w0 gr gs E ve vr vc rest C jP jE W) {gg:Nat} {ys:List V_} (hb:dh W gg 247 ys) (hy:ys.length=4) (h4:gr≠gg) (h5:gs≠gg) (hB:B<=gg) (a b c d:V_) :
  TR B w0 gr gs E ve vr vc rest C jP jE ((((W.setCell (a_ gg 0) a).setCell (a_ gg 1) b).setCell (a_ gg 2) c).setCell (a_ gg 3) d)/\dh ((((W.setCell (a_ gg 0) a).setCell (a_ gg 1) b).setCell (a_ gg 2) c).setCell (a_ gg 3) d) gg 247 [a,b,c,d]:=by
 match ys,hy with
 | [y0,y1,y2,y3],_=>have t1:=h.o hb (by decide) (by decide) (by decide) (by decide) h4 h5 hB 0 a;have b1:=cO hb 0 a;have t2:=t1.o b1 (by decide) (by decide) (by decide) (by decide) h4 h5 hB 1 b;have b2:=cO b1 1 b;have t3:=t2.o b2 (by decide) (by decide) (by decide) (by decide) h4 h5 hB 2 c;have b3:=cO b2 2 c;exact⟨t3.o b3 (by decide) (by decide) (by decide) (by decide) h4 h5 hB 3 d,cO b3 3 d⟩
end
def Xx (gs:Nat) (E:bH) (ve vr vc:V_) (rest:List V_) (w:W_) (e:Ending) (w':W_):Prop:=
 ∃D jP jE,Pu.Runs E (rD E.p) D/\e=.returned (p_ w.heap.size)/\TR w.heap.size w w.heap.size gs E ve vr vc rest D jP jE w'
structure ac1 (f:Nat->Int) (gs:Nat) (E:bH) (ve vr vc:V_) (rest:List V_) (w:W_) (D:bI) (jP jE:V_) (W:W_):Prop where
 r:qF E (rD E.p) D
 sta:wD E f D
 fresh:D.err=0->D.ins=Pu.aU E.p.ents D.mode.toNat/\D.c=0/\D.looked=0/\D.rule=0/\D.marked=0
 t:TR w.heap.size w w.heap.size gs E ve vr vc rest D jP jE W
def OU (E:bH) (D:bI):Nat:=(E.s.size-D.pos.toNat)+(if D.err=0 then 1 else 0)
theorem Ul (f:Nat->Int) (gs:Nat) (E:bH) (ve vr vc:V_) (rest:List V_) (w:W_) (gd:Pu.Good E f) (hs:E.s.size<=1099511627776) (hb:dh w gs 133 (jS E ve vr vc rest)) (hl:Lists w E.p ve vr vc) :
  C_ 105 #[p_ gs] w (Xx gs E ve vr vc rest w):=by
 obtain⟨all,gT,rfl,hl'⟩:=hl
 have hl:Lists w E.p (p_ gT) vr vc:=⟨all,gT,rfl,hl'⟩
 have gl:=bO hb
 have A0:Hid (ac1 f gs E (p_ gT) vr vc rest w (rD E.p) n_ n_ (w.alloc (c_ #[p_ gs,I_ 0,I_ 1,I_ 1,I_ 0,n_,I_ 0,n_,I_ 0] 218))):=
  ⟨.refl _,Wq gd,fun _=>⟨rfl,rfl,rfl,rfl,rfl⟩,⟨⟨hn_ w _,dx hb _,hl.below (mi _)⟩,fT _ _ _ _,fT _ _ _ _,fun g e=>(by cases e),mi _,di⟩⟩
 have GD:=bK gd;have HS:=bK hs;have ngs:gs≠w.heap.size:=by omega
 clear gd hs hb hl hl';go_enter Tryz.func105,Tryz.ntmps105
 go_wp2_with fail
 generalize w.alloc (c_ #[p_ gs,I_ 0,I_ 1,I_ 1,I_ 0,n_,I_ 0,n_,I_ 0] 218)=W0 at *
 go_loopg [] (OU E (rD E.p)) (fun gk wr=>∃D jP jE,gk=OU E D/\ac1 f gs E (p_ gT) vr vc rest w D jP jE wr)
 case atStart=>exact⟨_,_,_,rfl,A0.o⟩
 case round=>
  clear A0;obtain⟨D,jP,jE,rfl,hI⟩:=hrel;have HI:=bK hI;have c1:=bP 1 hI.t.m.fA rfl;have c8:=bP 8 hI.t.m.fA rfl;have s6:=bP 6 hI.t.m.scn rfl;have hp0:=hI.sta.pos;clear hI;by_cases hp:D.pos<E.s.size
  .by_cases he:D.err=0
   .rw [he] at c8
    go_wp2_with fail
    go_quiet (fail);have H1:=bK ((HI.o.t.drewN nq).alloc (c_ #[.bool false,I_ 0,I_ 0,I_ 0] 247));have KG:Hid (dh ((wr.drewN nq).alloc (c_ #[.bool false,I_ 0,I_ 0,I_ 0] 247)) wr.heap.size 247 (acN false 0 0 0)):=hn_ (wr.drewN nq) _;have s3:=bP 3 H1.o.m.scn rfl;have hfr:=HI.o.fresh he;have SK:=bK (fun W m=>NF f w.heap.size gs E (p_ gT) vr vc rest D jP jE W GD.o HI.o.sta he hp HS.o m hfr);clear c1 c8 s6
    go_wp2_with fail
    refine (SK.o _ H1.o.m).mono ?_
    clear SK s3 hfr;have wrl:=bO HI.o.t.m.fA;have wrs:=bO HI.o.t.m.scn;have ne1:wr.heap.size≠w.heap.size:=by omega
    have yZ:w.heap.size≠wr.heap.size:=by omega
    have ne3:gs≠wr.heap.size:=by omega
    rintro e w1 ⟨F,xM,Xa,YN,hg1,(⟨rfl,rO,hm1⟩ | ⟨G,er,rfl,rO,hm1⟩)⟩
    rotate_left
    focus have q:=rf GD.o (xM.inv GD.o HI.o.sta) Xa rO
    rotate_left
    all_goals
     have z1:=(xM.still GD.o HI.o.sta).2 YN Xa;have z2:=(xM.quiet GD.o HI.o.sta).2 YN Xa
    focus
     have T1:=bK (H1.o.eP hm1 hg1 z1.2 z1.1 z2);have K1:=bK (bQ KG.o hg1 (fun e=>ne1 (oi_ e)));have RN:Hid (Pu.Runs E (rD E.p) F):=⟨HI.o.r.trans xM,Zz rO⟩;clear hm1 hg1 z1 z2 rO xM H1 KG
    rotate_left
    focus
     have z3:=Pu.Ex.2 er rO;have T1:=bK (H1.o.eP hm1 hg1 (z3.2.trans z1.2) (z3.1.trans z1.1) (q.2.2.2.2.2.trans z2));have K1:=bK (bQ KG.o hg1 (fun e=>ne1 (oi_ e)));have RN:Hid (qF E (rD E.p) (Pu.take E G er)):=.step (HI.o.r.trans xM) (Zy Xa (by omega) rO);have SN:=bK (RN.o.inv GD.o (Wq GD.o));have HG:=bK q.1;have PG:Hid (G.pos=D.pos):=q.2.1.trans YN;have er2:=q.2.2.2.1;clear hm1 hg1 z1 z2 z3 rO xM H1 KG q
    rotate_left
    all_goals
     have y0:=bP 0 K1.o rfl;have y1:=bP 1 K1.o rfl;have y2:=bP 2 K1.o rfl;have y3:=bP 3 K1.o rfl;have j0:=bL K1.o 0;have j1:=bL K1.o 1;have j2:=bL K1.o 2;have j3:=bL K1.o 3
    .have T2:=bK (T1.o.sought K1.o rfl yZ ne3 (by omega) (.bool true) (I_ 0) (I_ F.rule) (I_ F.marked)).1;go_wp2;go_ret;exact⟨F,jP,jE,RN.o,rfl,T2.o⟩
    .have T2:=bK (T1.o.sought K1.o rfl yZ ne3 (by omega) (.bool false) (I_ er) (I_ G.rule) (I_ G.marked));have c8:=bP 8 T2.o.1.m.fA rfl;have f8:=bL T2.o.1.m.fA 8;have DM:Hid (OU E D=(E.s.size-D.pos.toNat)+1):=by show OU E D=_;unfold OU;rw [if_pos he]
     rcases er2 with rfl | rfl
     .by_cases hmk:G.marked=0
      .have TE:Hid (Pu.take E G 0={ G with err:=4 }):=by
        show _=_;have z:Pu.wrong E.p E.depth G=4:=by unfold Pu.wrong;rw [if_pos hmk]
        unfold Pu.take;rw [if_neg (by omega),z,if_pos (by omega)]
       have T3:=bK (T2.o.1.set 8 (I_ 4) (D:={ G with err:=4 }) rfl rfl rfl rfl);rw [hmk] at T3 c8 f8 |-;go_wp2;go_roundg (OU E { G with err:=4 })
       case measure=>have:=PG.o;rw [DM.o];unfold OU;simp only;rw [if_neg (by omega)];omega
       case rel=>exact⟨{ G with err:=4 },jP,jE,rfl,by rw [<-TE.o];exact RN.o,by rw [<-TE.o];exact SN.o,fun h=>absurd (show (4:Int)=0 from h) (by decide),T3.o.MN rfl rfl rfl rfl⟩
      .have d3:(G.marked == 0)=false:=by simpa using hmk
       have TO:=bK (fun W h=>aat f w.heap.size w w.heap.size gs E (p_ gT) vr vc rest G jP jE W GD.o HG.o (by have:=HG.o.marked;omega) HG.o.err HS.o h)
       go_wp2_with fail
       refine (TO.o _ T2.o.1).mono ?_
       rintro e w3 ⟨rfl,acW,Ol,hT3⟩;have T3:=bK hT3
       have MS:Hid (OU E (Pu.take E G 0)<OU E D):=by
        show OU E (Pu.take E G 0)<OU E D;rw [DM.o];have hp':=PG.o;unfold OU Pu.take;rw [if_neg (by omega)];by_cases hw:Pu.wrong E.p E.depth G=0
        .rw [if_neg (by omega)];have ti:=sH GD.o HG.o hw;have:=ti.1.within;have:=ti.1.looked;rw [if_pos ti.2.1];have:=ti.2.2.1;omega
        .rw [if_pos hw];simp only;rw [if_neg hw];omega
       have FR:Hid ((Pu.take E G 0).err=0->(Pu.take E G 0).ins=Pu.aU E.p.ents (Pu.take E G 0).mode.toNat/\(Pu.take E G 0).c=0/\(Pu.take E G 0).looked=0/\(Pu.take E G 0).rule=0/\(Pu.take E G 0).marked=0):=by
        show _->_;unfold Pu.take;rw [if_neg (by omega)];by_cases hw:Pu.wrong E.p E.depth G=0
        .rw [if_neg (by omega)]
         exact fun _=>⟨rfl,rfl,rfl,rfl,rfl⟩
        .rw [if_pos hw];exact fun h=>absurd h hw
       clear hT3 TO T2 T1 K1 y0 y1 y2 y3 c8 f8 j0 j1 j2 j3;go_wp2;go_roundg (OU E (Pu.take E G 0))
       case measure=>exact MS.o
       case rel=>exact⟨_,acW,Ol,rfl,RN.o,SN.o,FR.o,T3.o⟩
     .have TE:Hid (Pu.take E G 5={ G with err:=5 }):=by show _=_;unfold Pu.take;rw [if_pos (by omega)]
      have T3:=bK (T2.o.1.set 8 (I_ 5) (D:={ G with err:=5 }) rfl rfl rfl rfl);go_wp2;go_roundg (OU E { G with err:=5 })
      case measure=>have:=PG.o;rw [DM.o];unfold OU;simp only;rw [if_neg (by omega)];omega
      case rel=>exact⟨{ G with err:=5 },jP,jE,rfl,by rw [<-TE.o];exact RN.o,by rw [<-TE.o];exact SN.o,fun h=>absurd (show (5:Int)=0 from h) (by decide),T3.o⟩
   .have d8:(D.err == 0)=false:=by simpa using he
    have RN:Hid (Pu.Runs E (rD E.p) D):=⟨HI.o.r,zG he⟩
    go_wp2_with fail
    go_quiet (fail);go_wp2;go_ret;exact⟨D,jP,jE,RN.o,rfl,HI.o.t.drewN _⟩
  .have d1:decide (D.pos<(E.s.size:Int))=false:=dn_ hp
   have RN:Hid (Pu.Runs E (rD E.p) D):=⟨HI.o.r,by unfold AY;rw [if_pos (by omega)]⟩
   go_wp2_with fail
   go_quiet (fail);go_wp2;go_ret;exact⟨D,jP,jE,RN.o,rfl,HI.o.t.drewN _⟩
end T
namespace T
def sK:bJ:=⟨0,0,0,0,0⟩
theorem xE (l:List bJ):∀(i:Nat),i<l.length->(eB l)[i*5]?=some (I_ (l.getD i sK).rule)/\(eB l)[i*5+1]?=some (I_ (l.getD i sK).pos)/\(eB l)[i*5+2]?=some (I_ (l.getD i sK).len)/\(eB l)[i*5+3]?=some (I_ (l.getD i sK).line)/\(eB l)[i*5+4]?=some (I_ (l.getD i sK).iH):=by
 induction l with
 | nil=>intro i h;simp at h
 | cons x r ih=>
  intro i h;have c:eB (x::r)=I_ x.rule::I_ x.pos::I_ x.len::I_ x.line::I_ x.iH::eB r:=by simp [eB]
  rw [c]
  cases i with
  | zero=>simp
  | succ i=>
   have:=ih i (by simpa using h);have e:∀j,(i+1)*5+j=(i*5+j)+1+1+1+1+1:=fun j=>by omega
   have e':(i+1)*5=(i*5)+1+1+1+1+1:=by omega
   rw [e,e,e,e,e'];simpa using this
theorem aas (l:List bJ) (i:Nat) (h:i<l.length) (a:Nat) (ha:a<=i):(l.drop a).take (i+1-a)=(l.drop a).take (i-a)++[l.getD i sK]:=by rw [show i+1-a=(i-a)+1 by omega,List.take_add_one];congr 1;rw [List.getElem?_drop,show a+(i-a)=i by omega,gg_ h,gd_,gg_ h];rfl
def yj (E:bH) (D:bI):Int:=if D.err≠0 then 0 else E.s.size-D.pos
def EN (E:bH) (D:bI):List V_:=[I_ D.pos,I_ D.line,I_ D.iH,I_ D.mode,I_ D.iW,I_ (yj E D),I_ 0]
def tX (E:bH) (D:bI):List V_:=[I_ D.dV.length,I_ D.err]++EN E D
def aa7 (gs:Nat) (E:bH) (ve vr vc:V_) (given:Nat) (w:W_) (e:Ending) (w':W_):Prop:=
 ∃D vo,Pu.Runs E (rD E.p) D/\e=.returned (.tuple #[vo,I_ D.err])/\w'.ownsRow w.heap.size 74 5 vo (D.dV.length-given) (eB (D.dV.drop given))/\dh w' gs 133 (jS E ve vr vc (tX E D))/\Lists w' E.p ve vr vc/\w.grownBy w' (some gs)
structure DN (w:W_) (gs gr:Nat) (p:oC) (ve vr vc:V_) (cells rcells:List V_) (vo:V_) (n:Nat) (xs:List V_) (W:W_):Prop where
 b:dh W gs 133 cells
 r:dh W gr 218 rcells
 l:Lists W p ve vr vc
 o:W.ownsRow w.heap.size 74 5 vo n xs
 g:w.grownBy W (some gs)
 ne:gs≠gr
section
variable {w:W_} {gs gr:Nat} {p:oC} {ve vr vc:V_} {cells rcells:List V_} {vo:V_} {n:Nat} {xs:List V_} {W:W_}
theorem DN.set (h:DN w gs gr p ve vr vc cells rcells vo n xs W) (j:Nat) (u:V_):DN w gs gr p ve vr vc (cells.set j u) rcells vo n xs (W.setCell (a_ gs j) u):=by have hg:=gs_ W gs j u;exact⟨cO h.b j u,dB h.r (fun e=>h.ne e.symm) j u,h.l.on h.b (by decide) (by decide) (by decide) hg,dM h.o h.b (by decide) hg,eU h.g j u,h.ne⟩
theorem DN.drewN (h:DN w gs gr p ve vr vc cells rcells vo n xs W) (k:Nat):DN w gs gr p ve vr vc cells rcells vo n xs (W.drewN k):=
 ⟨h.b,h.r,h.l.below (bd_ (Br_ _ _) k),iJ h.o k,mZ h.g k,h.ne⟩
theorem DN.drew (h:DN w gs gr p ve vr vc cells rcells vo n xs W):DN w gs gr p ve vr vc cells rcells vo n xs W.drew:=
 ⟨h.b,h.r,h.l.below (Br_ _ _).drew,iJ h.o 1,rJ h.g,h.ne⟩
end
theorem wO (f:Nat->Int) (gs:Nat) (E:bH) (ve vr vc:V_) (given:Nat) (e0 n0 n1 n2 n3 n4 n5 n6:V_) (w:W_) (gd:Pu.Good E f) (hs:E.s.size<=1099511627776) (hgv:given<=1099511627776) (hb:dh w gs 133 (jS E ve vr vc [I_ given,e0,n0,n1,n2,n3,n4,n5,n6])) (hl:Lists w E.p ve vr vc) :
  C_ 73 #[p_ gs] w (aa7 gs E ve vr vc given w):=by
 obtain⟨aS,hi,hz0,hz1,hz2⟩:=ip_ Tryz.info74;have AG:=bK (Ul f gs E ve vr vc [I_ given,e0,n0,n1,n2,n3,n4,n5,n6] w gd hs hb hl);have GD:=bK gd;have HS:=bK hs;clear gd hs;have ngs:=bO hb;clear hb hl;go_enter Tryz.func73,Tryz.ntmps73
 go_wp2_with fail
 refine AG.o.mono ?_
 clear AG;rintro e w1 ⟨D,jP,jE,hR,rfl,hT⟩;have HR:=bK hR;have HT:=bK hT;have SD:=bK (hR.1.inv GD.o (Wq GD.o));have tl:D.dV.length<=1099511627776:=by have:=SD.o.dV;have:=SD.o.within;have:=SD.o.looked;have:=HS.o;omega
 obtain⟨at',ct,rfl,ht1,ht2⟩:=oo hT.aZ;obtain⟨ao,cp,rfl,hc1,hc2⟩:=oo hT.st;have g8:=bP 8 hT.m.scn rfl;have L0:Hid (B_ w1 w1):=Br_ _ _;clear hR hT
 go_wp2_with fail
 go_loopg [5,6] (D.dV.length-given) (fun gk ov iv wr=>∃(i:Nat) (vo:V_),vo=ov/\given<=i/\(i<=D.dV.length\/i=given)/\iv=I_ i/\gk=D.dV.length-i/\B_ w1 wr/\wr.ownsRow w1.heap.size 74 5 vo (i-given) (eB ((D.dV.drop given).take (i-given))))
 case atStart=>exact⟨given,_,rfl,di,.inr rfl,rfl,rfl,L0.o,by rw [Nat.sub_self];exact fT _ _ _ _⟩
 case round=>
  clear L0 g8;obtain⟨i,vo,rfl,xL,hi2,rfl,rfl,hbe,how⟩:=hrel;have HB:=bK hbe;have HO:=bK how;have T1:=HT.o.below hbe;have c7:=bP 7 T1.m.fA rfl;by_cases hlt:i<D.dV.length
  .obtain⟨gt,ct',hv,-,-⟩:=dJ T1.aZ (by omega);cases hv
   have q:=xE D.dV i hlt;have aW:=bT T1.aZ q.1;have q1:=bT T1.aZ q.2.1;have q2:=bT T1.aZ q.2.2.1;have q3:=bT T1.aZ q.2.2.2.1;have q4:=bT T1.aZ q.2.2.2.2;have glt:=(lI T1.aZ).2;have rlt:=bO T1.m.fA;have hsz:=hbe.size;have aj5:(i:Int)<D.dV.length:=by omega
   have MO:=bK (aas D.dV i hlt given xL);generalize D.dV.getD i sK=aZ at *;have ne1:gt≠wr.heap.size:=by omega
   have yZ:w.heap.size≠wr.heap.size:=by omega
   have aco:wr.heap.size≠gt:=by omega
   have ZF:wr.heap.size≠w.heap.size:=by omega
   clear q T1 hbe how
   go_wp2_with (at_builtin;refine wo_ _ rfl (.tmp 22) (.tmp 30) 72 rfl w1.heap.size 74 aS (.agg #[I_ 0,I_ 0,I_ 0,I_ 0,I_ 0]) 5 40 Tryz.underlying72 hi hz0 hz1 hz2 rfl (by decide) _ (i-given) (eB ((D.dV.drop given).take (i-given))) rfl (oa_ HO.o _) (a_ wr.heap.size 0) 1 1 [I_ aZ.rule,I_ aZ.pos,I_ aZ.len,I_ aZ.line,I_ aZ.iH] rfl rfl (jw rfl) (by intro u hu;simp at hu;rcases hu with rfl | rfl | rfl | rfl | rfl <;> rfl) (by unfold maxLen;omega) (by omega) (by simp;omega) ?_;intro v2 wa dw bS _)
   go_roundg (D.dV.length-(i+1))
   case measure=>omega
   case rel=>
    refine⟨i+1,_,rfl,by omega,.inl hlt,by go_num,rfl,?_,?_⟩
    .exact (HB.o.alloc (by omega) _).grown bS (by simp;omega) (fun k hk=>(ol_ HO.o k hk).1)
    .rw [MO.o,ug,show i+1-given=i-given+1 by omega];exact dw
  .have d1:=mM i D.dV.length;have hn:i-given=D.dV.length-given:=by omega
   have DX:Hid (DN w gs w.heap.size E.p ve vr vc (jS E ve vr vc [I_ given,e0,n0,n1,n2,n3,n4,n5,n6]) (lL gs D (.slice ao D.iW.toNat cp) (.slice at' D.dV.length ct)) vo (D.dV.length-given) (eB (D.dV.drop given)) wr):=by
    refine⟨T1.m.scn,T1.m.fA,T1.m.l,?_,?_,by omega⟩
    .rw [hn] at how;rw [List.take_of_length_le (by rw [List.length_drop];omega)] at how;exact dH how HT.o.sz
    .have b:=T1.be;exact⟨b.os,b.tape,b.output,b.size,fun k hk _=>b.block k hk⟩
   have g8:=bP 8 DX.o.b rfl;have g9:=bP 9 DX.o.b rfl;have f8:=bL DX.o.b 8;have f9:=bL DX.o.b 9;have r8:=bP 8 DX.o.r rfl;have D2:=bK ((DX.o.set 8 (I_ D.dV.length)).set 9 (I_ D.err));have ne1:gs≠w.heap.size:=by omega
   have yZ:w.heap.size≠gs:=by omega
   clear T1 hbe how HB HO DX HT;go_upto_region 9 with (fail);clear g8 g9 f8 f9 r8 c7;generalize (wr.setCell (a_ gs 8) (I_ D.dV.length)).setCell (a_ gs 9) (I_ D.err)=W2 at *;have r1:=bP 1 D2.o.r rfl;have r2:=bP 2 D2.o.r rfl;have r3:=bP 3 D2.o.r rfl;have r4:=bP 4 D2.o.r rfl;have r5:=bP 5 D2.o.r rfl;have r6:=bP 6 D2.o.r rfl;have g6:=bP 6 D2.o.b rfl;have g10:=bP 10 D2.o.b rfl;have g11:=bP 11 D2.o.b rfl;have g12:=bP 12 D2.o.b rfl;have g13:=bP 13 D2.o.b rfl;have g14:=bP 14 D2.o.b rfl;have g15:=bP 15 D2.o.b rfl;have g16:=bP 16 D2.o.b rfl;have f10:=bL D2.o.b 10;have f11:=bL D2.o.b 11;have f12:=bL D2.o.b 12;have f13:=bL D2.o.b 13;have f14:=bL D2.o.b 14;have f15:=bL D2.o.b 15;have f16:=bL D2.o.b 16;have dp:=SD.o.iW;have ps:=SD.o.pos;have wi:=SD.o.within;have lk:=SD.o.looked;have sz:=HS.o;have D3:=bK (((((((D2.o.set 10 (I_ D.pos)).set 11 (I_ D.line)).set 12 (I_ D.iH)).set 13 (I_ D.mode)).set 14 (I_ D.iW)).set 15 (I_ ((E.s.size:Int)-D.pos))).set 16 (I_ 0)).drew;have hmx:Hid (max D.iW 0=D.iW):=by show _=_;omega
   have hwp:Hid (IntKind.i64.wrap ((E.s.size:Int)-D.pos)=(E.s.size:Int)-D.pos):=oG _ (by omega) (by omega);have S1:=bK (show (fun w':W_=>w'.cell? (a_ w.heap.size 1)=some (I_ D.pos)/\w'.cell? (a_ w.heap.size 2)=some (I_ D.line)/\w'.cell? (a_ w.heap.size 3)=some (I_ D.iH)/\w'.cell? (a_ w.heap.size 4)=some (I_ D.mode)/\w'.cell? (a_ w.heap.size 5)=some (.slice ao D.iW.toNat cp)/\w'.cell? (a_ w.heap.size 6)=some (I_ 0)/\w'.cell? (a_ gs 6)=some (.string E.s)) W2.drew from ⟨r1,r2,r3,r4,r5,r6,g6⟩);have S3:=bK (And.intro (bM (j:=1) D3.o.r rfl) (And.intro (bM (j:=2) D3.o.r rfl) (And.intro (bM (j:=3) D3.o.r rfl) (And.intro (bM (j:=4) D3.o.r rfl) (And.intro (bM (j:=5) D3.o.r rfl) (And.intro (bM (j:=6) D3.o.r rfl) (bM (j:=6) D3.o.b rfl)))))));clear r1 r2 r3 r4 r5 r6 g6;refine wd_ (S:=fun w'=>w'.cell? (a_ w.heap.size 1)=some (I_ D.pos)/\w'.cell? (a_ w.heap.size 2)=some (I_ D.line)/\w'.cell? (a_ w.heap.size 3)=some (I_ D.iH)/\w'.cell? (a_ w.heap.size 4)=some (I_ D.mode)/\w'.cell? (a_ w.heap.size 5)=some (.slice ao D.iW.toNat cp)/\w'.cell? (a_ w.heap.size 6)=some (I_ 0)/\w'.cell? (a_ gs 6)=some (.string E.s)) (by kernel_rfl) S1.o (fun dF=>?_);refine bW 0 ?_
   refine bW 1 ?_
   refine bW 2 ?_
   refine bW 3 ?_
   refine bW 4 ?_
   refine bW 5 ?_
   refine bW 6 ?_
   refine bW 7 ?_
   refine bW 8 ?_
   refine bW 9 ?_
   refine bW 10 ?_
   refine bW 11 ?_
   refine bW 12 ?_
   refine bW 13 ?_
   refine bW 14 ?_
   refine bW 15 ?_
   refine bW 16 ?_
   refine bW 17 ?_
   refine bW 18 ?_
   refine bW 19 ?_
   refine bW 20 ?_
   refine bW 21 ?_
   refine bW 22 ?_
   refine bW 23 ?_
   refine bW 24 ?_
   refine bW 25 ?_
   refine bW 26 ?_
   refine bW 27 ?_
   refine bW 28 ?_
   refine bW 29 ?_
   refine bW 30 ?_
   refine bW 31 ?_
   refine bW 32 ?_
   refine bW 33 ?_
   refine bW 34 ?_
   refine bW 35 ?_
   refine bW 36 ?_
   refine bW 37 ?_
   refine bW 38 ?_
   refine fq 39 (fun K hK=>?_)
   go_simp
   rw [hmx.o,hwp.o];refine hK.out _ _ S3.o (fun fV=>?_);clear hK K;refine wpAnyH_done (by kernel_rfl) ?_ _;clear dF fV S1 S3 D2 g10 g11 g12 g13 g14 g15 g16 f10 f11 f12 f13 f14 f15 f16 hmx hwp;generalize (((((((W2.setCell (a_ gs 10) (I_ D.pos)).setCell (a_ gs 11) (I_ D.line)).setCell (a_ gs 12) (I_ D.iH)).setCell (a_ gs 13) (I_ D.mode)).setCell (a_ gs 14) (I_ D.iW)).setCell (a_ gs 15) (I_ ((E.s.size:Int)-D.pos))).setCell (a_ gs 16) (I_ 0)).drew=W3 at *;have r8:=bP 8 D3.o.r rfl;have g15:=bP 15 D3.o.b rfl;have f15:=bL D3.o.b 15;by_cases he:D.err=0
   .have HN:Hid (yj E D=(E.s.size:Int)-D.pos):=by show yj E D=_;unfold yj;rw [if_neg (by omega)]
    have HE:=bK he;rw [he] at r8
    go_wp2_with fail
    go_quiet (fail);go_wp2;have D5:=bK (D3.o.drewN nq);generalize W3.drewN nq=W5 at *;refine br_ (v:=.tuple #[vo,I_ 0]) (by simp [results,Tryz.results73,go_sem]) rfl ⟨D,vo,HR.o,by rw [HE.o],D5.o.o,?_,D5.o.l,D5.o.g⟩;unfold tX EN;rw [HN.o];exact D5.o.b
   .have HN:Hid (yj E D=0):=by show yj E D=_;unfold yj;rw [if_pos he]
    have d8:(D.err == 0)=false:=by simpa using he
    have D4:=bK (D3.o.set 15 (I_ 0));have r8':=bP 8 D4.o.r rfl
    go_wp2_with fail
    go_quiet (fail);go_wp2;have D5:=bK (D4.o.drewN nq);generalize (W3.setCell (a_ gs 15) (I_ 0)).drewN nq=W5 at *;refine br_ (v:=.tuple #[vo,I_ D.err]) (by simp [results,Tryz.results73,go_sem]) rfl ⟨D,vo,HR.o,rfl,D5.o.o,?_,D5.o.l,D5.o.g⟩;unfold tX EN;rw [HN.o];exact D5.o.b
end T
namespace T
def yT (L g:Nat) (v:V_):Prop:=∀x,v.ownBlock=some x->L<=x/\x<g
def Ds (P:V_->Prop) (W:W_) (gs:Nat) (E:bH) (C:bI):Prop:=
 ∃ve vr vc f,P ve/\dh W gs 133 (jS E ve vr vc (tX E C))/\Lists W E.p ve vr vc/\Pu.Good E f/\Pu.Runs E (rD E.p) C
def zg (P:V_->Prop) (gs:Nat) (E:bH) (C:bI) (w:W_) (e:Ending) (w':W_):Prop:=
 ∃D vo,Pu.Runs E (rD E.p) D/\e=.returned (.tuple #[vo,I_ D.err])/\w'.ownsRow w.heap.size 74 5 vo (D.dV.length-C.dV.length) (eB (D.dV.drop C.dV.length))/\Ds P w' gs E D/\w.grownBy w' (some gs)
theorem Ds.below {P:V_->Prop} {W W':W_} {gs:Nat} {E:bH} {C:bI} (h:Ds P W gs E C) (hb:B_ W W'):Ds P W' gs E C:=by obtain⟨ve,vr,vc,f,h0,h1,h2,h3⟩:=h;exact⟨ve,vr,vc,f,h0,bN h1 hb (bO h1),h2.below hb,h3⟩
theorem Ds.dV {P:V_->Prop} {W:W_} {gs:Nat} {E:bH} {C:bI} (h:Ds P W gs E C):C.dV.length<=E.s.size:=by obtain⟨ve,vr,vc,f,_,_,_,h3,h4⟩:=h;have s:=h4.1.inv h3 (Wq h3);have:=s.dV;have:=s.within;have:=s.looked;omega
theorem Nw (P:V_->Prop) (gs:Nat) (E:bH) (C:bI) (eZ:Y_) (w:W_) (h:Ds P w gs E C) (he:C.err=0) (hE:E.ended=false) (hs:E.s.size+eZ.size<=1099511627776) :
  C_ 38 #[p_ gs,.string eZ] w (zg P gs (E.on eZ false) C w):=by
 have ht:=h.dV;obtain⟨ve,vr,vc,f,hP,hb,hl,gd,hr⟩:=h;have HP:=bK hP;clear hP;have c9:=bP 9 hb (u:=I_ 0) (by rw [<-he];rfl);have c7:=bP 7 hb (u:=.bool false) (by rw [<-hE];rfl);have c6:=bP 6 hb rfl;have f6:=bL hb 6
 have b1:dh (w.setCell (a_ gs 6) (.string (E.s++eZ))) gs 133 (jS (E.on eZ false) ve vr vc (tX E C)):=by
  have z:=cO hb 6 (.string (E.s++eZ));have e:(jS E ve vr vc (tX E C)).set 6 (.string (E.s++eZ))=jS (E.on eZ false) ve vr vc (tX E C):=by unfold jS bH.on;rw [hE];rfl
  rw [e] at z;exact z
 have g1:=gs_ w gs 6 (.string (E.s++eZ));have l1:Lists (w.setCell (a_ gs 6) (.string (E.s++eZ))) (E.on eZ false).p ve vr vc:=hl.on hb (by decide) (by decide) (by decide) g1;have gd':Pu.Good (E.on eZ false) f:=gd.on eZ false;have hs':(E.on eZ false).s.size<=1099511627776:=by rw [mh];exact hs
 have DO:=bK (wO f gs (E.on eZ false) ve vr vc C.dV.length (I_ C.err) _ _ _ _ _ _ _ (w.setCell (a_ gs 6) (.string (E.s++eZ))) gd' hs' (by omega) b1 l1);have G1:=bK g1;have sz:(w.setCell (a_ gs 6) (.string (E.s++eZ))).heap.size=w.heap.size:=by simp [World.setCell]
 have SZ:=bK sz;have GD:=bK gd';clear b1 l1 g1 hb hl gd gd' hs' hr he hE sz;go_enter Tryz.func38,Tryz.ntmps38
 go_wp2_with fail
 refine DO.o.mono ?_
 clear DO;rintro e w1 ⟨D,vo,hR,rfl,hO,hB,hL,hG⟩;have FIN:Hid (zg P gs (E.on eZ false) C w (.returned (.tuple #[vo,I_ D.err])) w1):=by rw [SZ.o] at hO;exact⟨D,vo,hR,rfl,hO,⟨ve,vr,vc,f,HP.o,hB,hL,GD.o,hR⟩,Lib.grownBy_trans G1.o hG⟩
 clear hR hO hB hL hG;go_wp2
 go_ret2
 exact FIN.o
theorem XZ (s:Y_):s++fe=s:=by apply ByteArray.ext;simp [fe]
theorem GN (P:V_->Prop) (gs:Nat) (E:bH) (C:bI) (w:W_) (h:Ds P w gs E C) (he:C.err=0) (hE:E.ended=false) (hs:E.s.size<=1099511627776) :
  C_ 40 #[p_ gs] w (zg P gs (E.on fe true) C w):=by
 have ht:=h.dV;obtain⟨ve,vr,vc,f,hP,hb,hl,gd,hr⟩:=h;have HP:=bK hP;clear hP;have c9:=bP 9 hb (u:=I_ 0) (by rw [<-he];rfl);have c7:=bP 7 hb (u:=.bool false) (by rw [<-hE];rfl);have f7:=bL hb 7
 have b1:dh (w.setCell (a_ gs 7) (.bool true)) gs 133 (jS (E.on fe true) ve vr vc (tX E C)):=by
  have z:=cO hb 7 (.bool true);have e:(jS E ve vr vc (tX E C)).set 7 (.bool true)=jS (E.on fe true) ve vr vc (tX E C):=by unfold jS bH.on;rw [XZ];rfl
  rw [e] at z;exact z
 have g1:=gs_ w gs 7 (.bool true);have l1:Lists (w.setCell (a_ gs 7) (.bool true)) (E.on fe true).p ve vr vc:=hl.on hb (by decide) (by decide) (by decide) g1;have gd':Pu.Good (E.on fe true) f:=gd.on fe true;have hs':(E.on fe true).s.size<=1099511627776:=by rw [mh];exact hs
 have DO:=bK (wO f gs (E.on fe true) ve vr vc C.dV.length (I_ C.err) _ _ _ _ _ _ _ (w.setCell (a_ gs 7) (.bool true)) gd' hs' (by omega) b1 l1);have G1:=bK g1;have sz:(w.setCell (a_ gs 7) (.bool true)).heap.size=w.heap.size:=by simp [World.setCell]
 have SZ:=bK sz;have GD:=bK gd';clear b1 l1 g1 hb hl gd gd' hs' hr he hE sz;go_enter Tryz.func40,Tryz.ntmps40
 go_wp2_with fail
 refine DO.o.mono ?_
 clear DO;rintro e w1 ⟨D,vo,hR,rfl,hO,hB,hL,hG⟩;have FIN:Hid (zg P gs (E.on fe true) C w (.returned (.tuple #[vo,I_ D.err])) w1):=by rw [SZ.o] at hO;exact⟨D,vo,hR,rfl,hO,⟨ve,vr,vc,f,HP.o,hB,hL,GD.o,hR⟩,Lib.grownBy_trans G1.o hG⟩
 clear hR hO hB hL hG;go_wp2
 go_ret2
 exact FIN.o
def Dt (code:Int) (w:W_) (e:Ending) (w':W_):Prop:=e=.returned (.tuple #[n_,I_ code])/\B_ w w'
theorem JL (P:V_->Prop) (gs:Nat) (E:bH) (C:bI) (eZ:Y_) (w:W_) (h:Ds P w gs E C) (hE:C.err≠0\/E.ended=true) :
  C_ 38 #[p_ gs,.string eZ] w (Dt (shut true C.err) w):=by
 obtain⟨ve,vr,vc,f,-,hb,hl,gd,hr⟩:=h;by_cases he:C.err=0
 focus
  have hE':E.ended=true:=by
   rcases hE with h | h
   .exact absurd he h
   .exact h
  have c9:=bP 9 hb (u:=I_ 0) (by rw [<-he];rfl);have c7:=bP 7 hb (u:=.bool true) (by rw [<-hE'];rfl);have e:shut true C.err=8:=by unfold shut;rw [if_neg (by omega),if_pos rfl]
  rw [e];clear hb hl gd hr hE hE' he e
 rotate_left
 focus
  have c9:=bM (j:=9) hb rfl;have d1:(C.err == 0)=false:=by simpa using he
  have e:shut true C.err=C.err:=by unfold shut;rw [if_pos he]
  rw [e];clear hb hl gd hr hE e
 rotate_left
 all_goals
  go_enter Tryz.func38,Tryz.ntmps38
 .go_wp2
  go_ret2
  exact⟨rfl,Br_ _ _⟩
 .go_wp2_with fail
  go_quiet (fail);go_wp2
  go_ret2
  exact⟨rfl,bd_ (Br_ _ _) _⟩
theorem Ff (P:V_->Prop) (gs:Nat) (E:bH) (C:bI) (w:W_) (h:Ds P w gs E C) (hE:C.err≠0\/E.ended=true) :
  C_ 40 #[p_ gs] w (Dt (shut true C.err) w):=by
 obtain⟨ve,vr,vc,f,-,hb,hl,gd,hr⟩:=h;by_cases he:C.err=0
 focus
  have hE':E.ended=true:=by
   rcases hE with h | h
   .exact absurd he h
   .exact h
  have c9:=bP 9 hb (u:=I_ 0) (by rw [<-he];rfl);have c7:=bP 7 hb (u:=.bool true) (by rw [<-hE'];rfl);have e:shut true C.err=8:=by unfold shut;rw [if_neg (by omega),if_pos rfl]
  rw [e];clear hb hl gd hr hE hE' he e
 rotate_left
 focus
  have c9:=bM (j:=9) hb rfl;have d1:(C.err == 0)=false:=by simpa using he
  have e:shut true C.err=C.err:=by unfold shut;rw [if_pos he]
  rw [e];clear hb hl gd hr hE e
 rotate_left
 all_goals
  go_enter Tryz.func40,Tryz.ntmps40
 .go_wp2
  go_ret2
  exact⟨rfl,Br_ _ _⟩
 .go_wp2_with fail
  go_quiet (fail);go_wp2
  go_ret2
  exact⟨rfl,bd_ (Br_ _ _) _⟩
end T
end Go.Proofs.YtmccnmgaoppogaaGreat
