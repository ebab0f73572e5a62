import Derived.Test.YtmccnmgaoppogaaGreatLA
namespace Go.Proofs.YtmccnmgaoppogaaGreat
open Pu
set_option linter.all false
set_option maxRecDepth 100000
set_option maxHeartbeats 8000000
open Go.RowKit
variable {g n:Nat} {w wr:W_} {L:List Int}
namespace Pu
structure Ask (ls:List aC) (mode:Int) (w:List Nat) (k:Nat) (r:Int) (on:Bool):Prop where
 r:(r=-1/\∀i x,i<k->ls[i]?=some x->x.mode=mode->¬M x.re w)\/∃(i:Nat) (x:aC),r=(i:Int)/\i<k/\ls[i]?=some x/\x.mode=mode/\M x.re w/\∀j y,j<i->ls[j]?=some y->y.mode=mode->¬M y.re w
 on:on=true↔∃v:List Nat,v≠[]/\Bq v/\∃(i:Nat) (x:aC),i<k/\ls[i]?=some x/\x.mode=mode/\M x.re (w++v)
section
variable {ls:List aC} {mode:Int} {w:List Nat} {k:Nat} {r:Int} {on:Bool}
theorem Ask.zero:Ask ls mode w 0 (-1) false:=⟨.inl ⟨rfl,fun i x h=>absurd h (Nat.not_lt_zero _)⟩,⟨fun h=>(by cases h),fun ⟨v,_,_,i,x,h,_⟩=>absurd h (Nat.not_lt_zero _)⟩⟩
theorem Ask.skip (h:Ask ls mode w k r on) {x:aC} (hx:ls[k]?=some x) (hm:x.mode≠mode):Ask ls mode w (k+1) r on:=by
 have key:∀i y,i<k+1->ls[i]?=some y->y.mode=mode->i<k:=fun i y h1 h2 h3=>by
  by_cases e:i=k
  .subst e;rw [hx] at h2;cases h2;exact absurd h3 hm
  .omega
 refine⟨?_,?_⟩
 .rcases h.r with ⟨h1,h2⟩ | ⟨i,y,h1,h2,h3⟩
  .exact .inl ⟨h1,fun i y a b c=>h2 i y (key i y a b c) b c⟩
  .exact .inr ⟨i,y,h1,by omega,h3⟩
 .rw [h.on];exact⟨fun ⟨v,a,b,i,y,c,d⟩=>⟨v,a,b,i,y,by omega,d⟩,fun ⟨v,a,b,i,y,c,d,e,f⟩=>⟨v,a,b,i,y,key i y c d e,d,e,f⟩⟩
theorem Ask.next (h:Ask ls mode w k r on) {x:aC} (hx:ls[k]?=some x) (hm:x.mode=mode) {m o:Bool} (h1:m=true↔M x.re w) (h2:o=true↔∃v:List Nat,v≠[]/\(∀c∈v,c<256)/\M x.re (w++v)):Ask ls mode w (k+1) (if m=true/\r<0 then (k:Int) else r) (on || o):=by
 refine⟨?_,?_⟩
 .rcases h.r with ⟨e1,e2⟩ | ⟨i,y,e1,e2,e3,e4,e5,e6⟩
  .by_cases c:m=true
   .rw [if_pos ⟨c,by omega⟩];exact .inr ⟨k,x,rfl,by omega,hx,hm,h1.1 c,fun j y a b d=>e2 j y a b d⟩
   .rw [if_neg (fun h=>c h.1)];refine .inl ⟨e1,fun i y a b d=>?_⟩;by_cases e:i=k
    .subst e;rw [hx] at b;cases b;exact fun hM=>c (h1.2 hM)
    .exact e2 i y (by omega) b d
  .rw [if_neg (fun h=>by omega)];exact .inr ⟨i,y,e1,by omega,e3,e4,e5,e6⟩
 .rw [Bool.or_eq_true,h.on,h2];constructor
  .rintro (⟨v,a,b,i,y,c,d⟩ | ⟨v,a,b,c⟩)
   .exact⟨v,a,b,i,y,by omega,d⟩
   .exact⟨v,a,b,k,x,by omega,hx,hm,c⟩
  .rintro ⟨v,a,b,i,y,c,d,e,f⟩;by_cases e':i=k
   .subst e';rw [hx] at d;cases d;exact .inr ⟨v,a,b,f⟩
   .exact .inl ⟨v,a,b,i,y,by omega,d,e,f⟩
theorem Ask.first (h:Ask ls mode w ls.length r on):oH ls mode w r:=by
 rcases h.r with ⟨e1,e2⟩ | ⟨i,y,e1,e2,e3,e4,e5,e6⟩
 .exact .inl ⟨e1,fun i x hi hm=>e2 i x (mY hi) hi hm⟩
 .exact .inr ⟨i,y,e1,e3,e4,e5,fun j z a b c=>e6 j z a b c⟩
theorem Ask.onw (h:Ask ls mode w ls.length r on):on=true↔OnW ls mode w:=by rw [h.on];exact⟨fun ⟨v,a,b,i,y,_,d⟩=>⟨v,a,b,i,y,d⟩,fun ⟨v,a,b,i,y,d⟩=>⟨v,a,b,i,y,mY d.1,d⟩⟩
end
end Pu
def Ru (W:W_) (all:List aC) (g:Nat):Prop:=∃B s0 vn al cl,sM s0 0 [] all/\s0.size<=300/\Dr B g s0 (s0.size+1) (fG all).ns vn (.slice al (fG all).ls.length cl) (fG all).modes (fG all).down W/\W.ownsRow B 101 5 (.slice al (fG all).ls.length cl) (fG all).ls.length (Gl (fG all).ls)
theorem Ru.below {W W':W_} {all:List aC} {g:Nat} (h:Ru W all g) (hb:B_ W W'):Ru W' all g:=by obtain⟨B,s0,vn,al,cl,h1,h2,h3,h4⟩:=h;exact⟨B,s0,vn,al,cl,h1,h2,h3.below hb,bU h4 hb di⟩
theorem Ru.on {W W':W_} {all:List aC} {go t:Nat} {ys:List V_} (h:Ru W all g) (hb:dh W go t ys) (n1:t≠99) (n2:t≠161) (n3:t≠101) (hg:W.grownBy W' (some go)):Ru W' all g:=by obtain⟨B,s0,vn,al,cl,h1,h2,h3,h4⟩:=h;exact⟨B,s0,vn,al,cl,h1,h2,⟨bQ h3.rb hg (fun e=>dD h3.rb hb (Ne.symm n1) (oi_ e)),h3.up,dA h3.own hb n2 hg⟩,dA h4 hb n3 hg⟩
def Xy (all:List aC) (mode:Int) (s:Y_) (w:W_) (e:Ending) (w':W_):Prop:=
 ∃r on,e=.returned (.tuple #[I_ r,.bool on])/\B_ w w'/\oH all mode (qH s) r/\(on=true↔Pu.OnW all mode (qH s))
theorem Uo (s:Y_) (all:List aC) (g:Nat) (mode:Int) (w:W_) (hR:Ru w all g) (hs:s.size<=1000) :
  C_ 147 #[p_ g,I_ mode,.string s] w (Xy all mode s w):=by
 obtain⟨B0,s0,vn,al,cl,hL,aek,hdr,hln⟩:=hR;have AD0:=zi all hL.zl.1;have Xp:=hL.zl;have nsl:(fG all).ns.length<=1000:=by have:=hL.nodes (zl_ _);omega
 have ll:(fG all).ls.length=all.length:=sP all;have ajC:all.length<=16:=Xp.2.2
 have HD:Hid (Dr B0 g s0 (s0.size+1) (fG all).ns vn (.slice al (fG all).ls.length cl) (fG all).modes (fG all).down w/\w.ownsRow B0 101 5 (.slice al (fG all).ls.length cl) (fG all).ls.length (Gl (fG all).ls)):=⟨hdr,hln⟩
 have AG:=bK AD0;have LL:=bK ll;clear hdr hln hL AD0 Xp ll;have t0:(0:Int)<=s.size:=by omega
 have t1:(s.size:Int)<((s.size+2:Nat):Int):=by omega
 have t2:(0:Int)<=s.size+1:=by omega
 have t3:(s.size:Int)+1<((s.size+2:Nat):Int):=by omega
 have ws:=xF ((s.size:Int)+1);have agf:=bK (Df s);have WLN:Hid ((qH s).length=s.size):=Ki s;go_enter Tryz.func147,Tryz.ntmps147
 go_wp2_with fail
 go_loopg [8,9,10,11] all.length (fun gk rv ov iv _ wx=>∃(i:Nat) (r:Int) (on:Bool),i<=all.length/\gk=all.length-i/\rv=I_ r/\ov=.bool on/\iv=I_ i/\B_ w wx/\Pu.Ask all mode (qH s) i r on)
 case atStart=>exact⟨0,-1,false,zl_ _,rfl,rfl,rfl,rfl,Br_ _ _,.zero⟩
 case round=>
  obtain⟨i,r,on,il,rfl,rfl,rfl,rfl,hb,hA⟩:=hrel;have D2:Hid (Dr B0 g s0 (s0.size+1) (fG all).ns vn (.slice al (fG all).ls.length cl) (fG all).modes (fG all).down wr/\wr.ownsRow B0 101 5 (.slice al (fG all).ls.length cl) (fG all).ls.length (Gl (fG all).ls)):=⟨HD.o.1.below hb,bU HD.o.2 hb di⟩;have c2:=bP 2 D2.o.1.rb rfl;rw [LL.o] at c2;have HB:=bK hb;have HA:=bK hA;clear hb hA;by_cases hi:i<all.length
  .have d1:=nV i all.length;have wi:=kg i;have aS:=jg i;have i1:(i:Int)<all.length:=by omega
   obtain⟨x,hx⟩:=qG all i hi;have Mi:=AG.o.get i x hx;obtain⟨gv,cv,ev,_,_⟩:=dJ D2.o.2 (by rw [LL.o];omega);cases ev;have aW:wr.cell? (a_ gv (i*5))=some (I_ x.mode):=by have:=bT D2.o.2 (pG Mi (j:=0) (by omega));exact this
   have q4:wr.cell? (a_ gv (i*5+4))=some (I_ ((dK (all.take i)+x.re.size-1:Nat):Int)):=bT D2.o.2 (pG Mi (j:=4) (by omega));by_cases hm:x.mode=mode
   .have m1:(x.mode != mode)=false:=by simpa using hm
    have CA:=bK (UI _ g _ s0 s all _ _ _ _ _ i x _ (s.size+2) _ wr D2.o.1 AG.o.net hx rfl nsl hs rfl rfl);have NX:=bK (fun (m o:Bool) h1 h2=>HA.o.next hx hm (m:=m) (o:=o) h1 h2);clear Mi hx hm;generalize dK (all.take i)+x.re.size-1=root at *;generalize x.mode=xm at *
    go_wp2_with fail
    refine CA.o.mono ?_
    clear CA c2 aW q4 m1;rintro e w2 ⟨gr,f,rfl,hb2,hbl,hf⟩;have B2:=bK (iT HB.o hb2);have N2:=bK (NX.o (f s.size) (f (s.size+1)) (by have h:=hf s.size (by omega);rw [<-WLN.o] at h |-;rw [h];exact abX agf.o) (by have h:=hf (s.size+1) (by omega);rw [<-WLN.o] at h |-;rw [h];exact Y1 agf.o));have k1:=bM hbl (gH f (show s.size<s.size+2 by omega));have k2:=bM hbl (gH f (show s.size+1<s.size+2 by omega));clear hb2 hbl hf NX HB HA D2;generalize f s.size=aP at *;generalize f (s.size+1)=aQ at *
    cases aP with
    | false=>
     have N3:Hid (Pu.Ask all mode (qH s) (i+1) r (on || aQ)):=by have:=N2.o;rw [if_neg (by simp)] at this;exact this
     clear N2
     cases on with
     | true=>
      go_wp2;go_roundg (all.length-(i+1))
      case measure=>omega
      case rel=>exact⟨i+1,r,true,by omega,rfl,rfl,rfl,by go_num,B2.o,N3.o⟩
     | false=>
      go_wp2;go_roundg (all.length-(i+1))
      case measure=>omega
      case rel=>exact⟨i+1,r,aQ,by omega,rfl,rfl,by simp,by go_num,B2.o,by have:=N3.o;rwa [Bool.false_or] at this⟩
    | true=>
     by_cases hr:r<0
     .have d2:decide (r<0)=true:=dt_ hr;have N3:Hid (Pu.Ask all mode (qH s) (i+1) (i:Int) (on || aQ)):=by have:=N2.o;rw [if_pos ⟨rfl,hr⟩] at this;exact this
      clear N2 hr
      cases on with
      | true=>
       go_wp2;go_roundg (all.length-(i+1))
       case measure=>omega
       case rel=>exact⟨i+1,(i:Int),true,by omega,rfl,rfl,rfl,by go_num,B2.o,N3.o⟩
      | false=>
       go_wp2;go_roundg (all.length-(i+1))
       case measure=>omega
       case rel=>exact⟨i+1,(i:Int),aQ,by omega,rfl,rfl,by simp,by go_num,B2.o,by have:=N3.o;rwa [Bool.false_or] at this⟩
     .have d2:decide (r<0)=false:=dn_ hr;have N3:Hid (Pu.Ask all mode (qH s) (i+1) r (on || aQ)):=by have:=N2.o;rw [if_neg (fun h=>hr h.2)] at this;exact this
      clear N2 hr
      cases on with
      | true=>
       go_wp2;go_roundg (all.length-(i+1))
       case measure=>omega
       case rel=>exact⟨i+1,r,true,by omega,rfl,rfl,rfl,by go_num,B2.o,N3.o⟩
      | false=>
       go_wp2;go_roundg (all.length-(i+1))
       case measure=>omega
       case rel=>exact⟨i+1,r,aQ,by omega,rfl,rfl,by simp,by go_num,B2.o,by have:=N3.o;rwa [Bool.false_or] at this⟩
   .have m1:(x.mode != mode)=true:=by simpa using hm
    have SK:=bK (HA.o.skip hx hm);clear Mi hx hm q4;generalize x.mode=xm at *;go_wp2;go_roundg (all.length-(i+1))
    case measure=>omega
    case rel=>exact⟨i+1,r,on,by omega,rfl,rfl,rfl,by go_num,HB.o,SK.o⟩
  .have d1:=mM i all.length;have ei:i=all.length:=by omega
   have RES:Hid (Xy all mode s w (.returned (.tuple #[I_ r,.bool on])) wr):=by have:=HA.o;rw [ei] at this;exact⟨r,on,rfl,HB.o,this.first,this.onw⟩
   clear HA HB D2;go_wp2
   go_ret2
   exact RES.o
theorem Jt (x:dY) (k n:Nat) (w:W_) (_hk:k<=16) (_hn:n<=50000) :
  C_ 135 #[.agg #[I_ x.op,I_ x.a,I_ x.b,I_ x.bG],I_ k,I_ n] w (zf (rz k n x) w):=by
 obtain⟨op,a,b,bG⟩:=x;have fin:∀op a b bG:Int,B_ w (w.alloc (c_ #[I_ op,I_ a,I_ b,I_ bG] 61)):=fun _ _ _ _=>mi _
 go_enter Tryz.func135,Tryz.ntmps135;go_wp2
 all_goals go_ret
 all_goals refine mQ ?_ (fin _ _ _ _)
 all_goals unfold rz
 all_goals simp only [beq_iff_eq,ne_eq,beq_eq_false_iff_ne,decide_eq_true_eq,Bool.false_eq_true,false_iff] at *
 all_goals first | omega | skip
 go_ways
theorem Au (v:V_) (l:List Int) (n:Nat) (w:W_) (hv:vI w v l) (_hn:n<=9223372036854775807) :
  C_ 106 #[v,I_ n] w (zf (Dg l n) w):=by
 obtain⟨ao,cap,rfl,hc1,hc2,nK⟩:=hv.read;clear hv;by_cases h1:l.length<1
 .go_enter Tryz.func106,Tryz.ntmps106;go_wp2;go_ret;exact mQ (dW (Ed (by omega))) (Br_ _ _)
 by_cases h4:4<l.length
 .go_enter Tryz.func106,Tryz.ntmps106;go_wp2;go_ret;exact mQ (dW (Ed (by omega))) (Br_ _ _)
 go_enter Tryz.func106,Tryz.ntmps106;go_wp2
 go_loop [17] (fun i=>∃k:Nat,k<=l.length/\i=I_ k/\∀j,j<k->0<=Pu.aU l j/\Pu.aU l j<n) (fun i=>l.length-(intOf i).toNat)
 case atStart=>exact⟨0,zl_ _,rfl,fun j hj=>by omega⟩
 case round=>
  obtain⟨k,hk,rfl,hall⟩:=hrel;have HA:=bK hall;clear hall;by_cases hlt:k<l.length
  .obtain⟨b,off,rfl,hb,qD⟩:=nK k hlt;clear nK;cases hbel:Pu.uo (Pu.aU l k) n
   all_goals
    go_wp2_with (go_at_call 133;refine (kY _ _ _).mono ?_;rintro e w' ⟨rfl,rfl⟩)
   .go_ret
    exact mQ (dW (Yr hlt (yI hbel))) (Br_ _ _)
   .go_round
    case rel=>exact⟨k+1,by omega,by go_num,ry HA.o (xf hbel)⟩
    case measure=>simp [intOf];omega
  .go_wp2;go_ret;have:k=l.length:=by omega
   subst this;exact mQ (tF ⟨by omega,HA.o⟩) (Br_ _ _)
theorem Fj (v:V_) (l:List mJ) (m:Nat) (w:W_) (hv:qJ w v l) (hm1:1<=m) (hm:m<=4) :
  C_ 107 #[v,I_ m] w (zf (sO l m) w):=by
 obtain⟨ao,cap,rfl,hc1,hc2,nK⟩:=hv.read;clear hv;by_cases h1:l.length<1
 .go_enter Tryz.func107,Tryz.ntmps107;go_wp2;go_ret;exact mQ (dW (Cb (by omega))) (Br_ _ _)
 by_cases h4:16<l.length
 .go_enter Tryz.func107,Tryz.ntmps107;go_wp2;go_ret;exact mQ (dW (Cb (by omega))) (Br_ _ _)
 go_enter Tryz.func107,Tryz.ntmps107;go_wp2
 go_loopw [17] (fun i wr=>∃k:Nat,k<=l.length/\i=I_ k/\B_ w wr/\∀j,j<k->tJ m (Pu.rg l j)) (fun i _=>l.length-(intOf i).toNat)
 case atStart=>exact⟨0,zl_ _,rfl,Br_ _ _,fun j hj=>by omega⟩
 case round=>
  obtain⟨k,hk,rfl,hbel,hall⟩:=hrel;have HA:=bK hall;clear hall;by_cases hlt:k<l.length
  .obtain⟨b,off,rfl,hb,hc0,hc1',hc2'⟩:=nK k hlt;clear nK;have g0:=(hbel.cell (p:=(a_ b (off+k*3))) hb).trans hc0;have g1:=(hbel.cell (p:=(a_ b (off+k*3+1))) hb).trans hc1';have g2:=(hbel.cell (p:=(a_ b (off+k*3+2))) hb).trans hc2';clear hc0 hc1' hc2'
   go_wp2_with fail
   refine (GY (Pu.rg l k) m _ hm1 hm).mono ?_
   rintro e w1 ⟨bb,rfl,hbb,hb1⟩;have iE:=Gr hbel hb1;clear g0 g1 g2 hb1;cases bb
   .go_wp2;go_ret;exact mQ (dW (Wd hlt (fun h=>Bool.noConfusion (hbb.2 h)))) iE
   .have HB:=bK (hbb.1 rfl);clear hbb;go_wp2
    go_roundw
    case rel=>exact⟨k+1,by omega,by go_num,iE,ry HA.o HB.o⟩
    case measure=>simp [intOf];omega
  .go_wp2;go_ret;have:k=l.length:=by omega
   subst this;exact mQ (tF ⟨by omega,HA.o⟩) hbel
theorem Gu (v:V_) (l:List dY) (m:Nat) (w:W_) (hv:Code w v l) (hm:m<=16) :
  C_ 108 #[v,I_ m] w (zf (vU l m) w):=by
 obtain⟨ao,cap,rfl,hc1,hc2,nK⟩:=hv.read;clear hv;by_cases h1:l.length<1
 .go_enter Tryz.func108,Tryz.ntmps108;go_wp2;go_ret;exact mQ (dW (DW (by omega))) (Br_ _ _)
 by_cases h4:50000<l.length
 .go_enter Tryz.func108,Tryz.ntmps108;go_wp2;go_ret;exact mQ (dW (DW (by omega))) (Br_ _ _)
 go_enter Tryz.func108,Tryz.ntmps108;go_wp2
 go_loopw [18] (fun i wr=>∃k:Nat,k<=l.length/\i=I_ k/\B_ w wr/\∀j,j<k->rz m l.length (Pu.aO l j)) (fun i _=>l.length-(intOf i).toNat)
 case atStart=>exact⟨0,zl_ _,rfl,Br_ _ _,fun j hj=>by omega⟩
 case round=>
  obtain⟨k,hk,rfl,hbel,hall⟩:=hrel;have HA:=bK hall;clear hall;by_cases hlt:k<l.length
  .obtain⟨b,off,rfl,hb,hc0,hc1',hc2',Jo⟩:=nK k hlt;clear nK;have g0:=(hbel.cell (p:=(a_ b (off+k*4))) hb).trans hc0;have g1:=(hbel.cell (p:=(a_ b (off+k*4+1))) hb).trans hc1';have g2:=(hbel.cell (p:=(a_ b (off+k*4+2))) hb).trans hc2';have g3:=(hbel.cell (p:=(a_ b (off+k*4+3))) hb).trans Jo;clear hc0 hc1' hc2' Jo
   go_wp2_with fail
   refine (Jt (Pu.aO l k) m l.length _ hm (by omega)).mono ?_
   rintro e w1 ⟨bb,rfl,hbb,hb1⟩;have iE:=Gr hbel hb1;clear g0 g1 g2 g3 hb1;cases bb
   .go_wp2;go_ret;exact mQ (dW (Yo hlt (fun h=>Bool.noConfusion (hbb.2 h)))) iE
   .have HB:=bK (hbb.1 rfl);clear hbb;go_wp2
    go_roundw
    case rel=>exact⟨k+1,by omega,by go_num,iE,ry HA.o HB.o⟩
    case measure=>simp [intOf];omega
  .have hkl:k=l.length:=by omega
   subst hkl;obtain⟨b,off,rfl,hb,hc0,-⟩:=nK (l.length-1) (by omega);have g0:=(hbel.cell (p:=⟨b,off+(l.length-1)*4,none⟩) hb).trans hc0;clear nK hc0;generalize hx:(Pu.aO l (l.length-1)).op=x at *;have HX:=bK hx;clear hx;by_cases e4:x=4
   .have e4':(x == 4)=true:=by simpa using e4
    clear e4;go_wp2;go_ret;exact mQ (tF ⟨by omega,HA.o,.inl (by rw [HX.o];simpa using e4')⟩) hbel
   .have e4':(x == 4)=false:=by simpa using e4
    by_cases e5:x=5
    .have e5':(x == 5)=true:=by simpa using e5
     clear e4 e5;go_wp2;go_ret;exact mQ (tF ⟨by omega,HA.o,.inr (by rw [HX.o];simpa using e5')⟩) hbel
    .have e5':(x == 5)=false:=by simpa using e5
     have HE:Hid (¬(x=4\/x=5)):=by intro h;rcases h with h | h;exact e4 h;exact e5 h
     clear e4 e5;go_wp2;go_ret;exact mQ (dW (Ux (by rw [HX.o];exact HE.o))) hbel
theorem Tryz.info3 : (Tryz.prog.info? 3).map (fun i=>(i.zero,i.size,i.bytes))=some (some (I_ 0),1,8):=by kernel_rfl
theorem Vy (n:Nat):(madeCells (I_ 0).cells (n*1)).toList=bY (List.replicate n 0):=by simp only [madeCells,bY,Value.cells,Nat.mul_one,List.map_replicate];rw [List.eq_replicate_iff];simp [Nat.mod_one]
theorem Ju (L:List Int) (v:Nat) (y:Int):(bY L).set v (I_ y)=bY (L.set v y):=by simp [bY,List.map_set]
def gY (w wr:W_) (g n:Nat) (L:List Int):Prop:=wr.ownsRow w.heap.size 3 1 (s_ g n n) n (bY L)
theorem gY.cell {w wr:W_} {g n:Nat} {L:List Int} (h:gY w wr g n L) {v:Nat} (hv:v<L.length):wr.cell? (a_ g v)=some (I_ (Pu.aU L v)):=by
 have:=h.cells (g:=g) rfl v _ (qO L v hv);unfold Pu.aU;by_cases hj:v=0
 .subst hj;simpa [Addr.add] using this
 .simpa [Addr.add,hj] using this
theorem gY.frozen {w wr:W_} {g n:Nat} {L:List Int} (h:gY w wr g n L) (v:Nat):wr.frozen? (a_ g v)=false:=
 World.ownsRow.frozenAt h v
theorem gY.store (h:gY w wr g n L) (v:Nat) (y:Int):gY w (wr.setCell (a_ g v) (I_ y)) g n (L.set v y):=by have:=(World.ownsRow.stored h v (I_ y)).1;rw [Ju] at this;exact this
def XG (l:List dY) (w:W_) (e:Ending) (w':W_):Prop:=∃g L,e=.returned (s_ g l.length l.length)/\B_ w w'/\gY w w' g l.length L/\Gd l L (Pu.tg l (List.range l.length))
theorem DZ (v:V_) (l:List dY) (w:W_) (hv:Code w v l) (ht:nJ l) (hn:l.length<=50000) :
  C_ 136 #[v] w (XG l w):=by
 obtain⟨aS,hi,hz0,hz1,hz2⟩:=ip_ Tryz.info3;have HT:=bK ht;clear ht;obtain⟨ao,cap,rfl,hc1,hc2,nK⟩:=hv.read;clear hv;go_enter Tryz.func136,Tryz.ntmps136
 go_wp2_with (at_make;refine wpList_make_full _ rfl _ _ 31 rfl w.heap.size 3 aS (I_ 0) 1 Tryz.underlying31 hi hz0 hz1 _ _ _ _ l.length rfl rfl rfl rfl (by rw [hz2];omega) (by unfold maxLen;omega) di ?_;intro w1 fH lT)
 have iE:B_ w w1:=(Br_ _ _).grown lT di (fun k h=>by cases h);rw [Vy] at fH;have HO:=bK fH;clear fH lT
 go_loopw [13] (fun i wr=>∃k:Nat,k<=l.length/\i=I_ k/\B_ w wr/\∃L,gY w wr w.heap.size l.length L/\Gd l L (Pu.tg l (List.range k))) (fun i _=>l.length-(intOf i).toNat)
 case atStart=>exact⟨0,zl_ _,rfl,iE,_,HO.o,Uw l⟩
 case round=>
  clear HO iE;obtain⟨k,hk,rfl,hbel,L,hL,hcnt⟩:=hrel;have HC:=bK hcnt;clear hcnt;by_cases hlt:k<l.length
  .obtain⟨b,off,rfl,hb,hc0,hc1',hc2',Jo⟩:=nK k hlt;clear nK;have g0:=(hbel.cell (p:=(a_ b (off+k*4))) hb).trans hc0;have g1:=(hbel.cell (p:=(a_ b (off+k*4+1))) hb).trans hc1';have g2:=(hbel.cell (p:=(a_ b (off+k*4+2))) hb).trans hc2';have g3:=(hbel.cell (p:=(a_ b (off+k*4+3))) hb).trans Jo;clear hc0 hc1' hc2' Jo
   go_wp2_with fail
   refine (yh (Pu.aO l k) k _ (by omega) (by omega)).mono ?_
   rintro e w2 ⟨rfl,hb2⟩;have nY:=Gr hbel hb2;have hL2:gY w w2 w.heap.size l.length L:=bU (bU hL ((Br_ wr.heap.size wr).alloc di _) di) hb2 di;clear g0 g1 g2 g3 hb2 hL;generalize hA:Pu.aP (Pu.aO l k) (k:Int)=a;generalize hB:Pu.aQ (Pu.aO l k)=a';have HA:=bK hA;have HB:=bK hB;clear hA hB
   go_wp2_with fail
   go_loopw [21] (fun j wq=>∃jn:Nat,jn<=2/\j=I_ jn/\B_ w wq/\∃L',gY w wq w.heap.size l.length L'/\Gd l L' (xg l k jn)) (fun j _=>2-(intOf j).toNat)
   case atStart=>exact⟨0,by omega,rfl,nY,L,hL2,HC.o⟩
   case round=>
    clear nY hL2 HC;obtain⟨jn,hjn,rfl,lu,L',Ay,hcnt⟩:=hrel;have HC:=bK hcnt;clear hcnt;have f0:∀w,(Instr.index 252 (.agg #[I_ a,I_ a']) (I_ 0)).run Tryz.prog w=.ok (I_ a) w:=fun _=>by kernel_rfl
    have f1:∀w,(Instr.index 252 (.agg #[I_ a,I_ a']) (I_ 1)).run Tryz.prog w=.ok (I_ a') w:=fun _=>by kernel_rfl
    match jn,hjn with
    | 0,_=>
     cases hbl:Pu.uo a l.length
     .go_wp2_with (go_at_call 133;refine (kY _ _ _).mono ?_;rintro e w' ⟨rfl,rfl⟩)
      go_roundw
      case rel=>exact⟨1,by omega,rfl,lu,L',Ay,abz HT.o hlt HA.o HC.o hbl⟩
      case measure=>simp [intOf]
     .have kU:=HC.o.1;have hpl:=IB l k 0;have hab:=xf hbl;have hbd:=HC.o.bd (v:=a.toNat) (by omega);have qD:=Ay.cell (v:=a.toNat) (by omega);have hfz:=Ay.frozen a.toNat;clear kU
      go_wp2_with (go_at_call 133;refine (kY _ _ _).mono ?_;rintro e w' ⟨rfl,rfl⟩)
      go_roundw
      case rel=>exact⟨1,by omega,rfl,lu.setCell di _,_,Ay.store _ _,Yl HT.o hlt HA.o HC.o hbl⟩
      case measure=>simp [intOf]
    | 1,_=>
     cases hbl:Pu.uo a' l.length
     .go_wp2_with (go_at_call 133;refine (kY _ _ _).mono ?_;rintro e w' ⟨rfl,rfl⟩)
      go_roundw
      case rel=>exact⟨2,by omega,rfl,lu,L',Ay,abA HT.o hlt HB.o HC.o hbl⟩
      case measure=>simp [intOf]
     .have kU:=HC.o.1;have hpl:=IB l k 1;have hab:=xf hbl;have hbd:=HC.o.bd (v:=a'.toNat) (by omega);have qD:=Ay.cell (v:=a'.toNat) (by omega);have hfz:=Ay.frozen a'.toNat;clear kU
      go_wp2_with (go_at_call 133;refine (kY _ _ _).mono ?_;rintro e w' ⟨rfl,rfl⟩)
      go_roundw
      case rel=>exact⟨2,by omega,rfl,lu.setCell di _,_,Ay.store _ _,Ym HB.o HC.o hbl⟩
      case measure=>simp [intOf]
    | 2,_=>
     clear f0 f1;go_wp2
     go_roundw
     case rel=>exact⟨k+1,by omega,by go_num,lu,L',Ay,by rw [<-VP];exact HC.o⟩
     case measure=>simp [intOf];omega
  .have hkl:k=l.length:=by omega
   subst hkl;go_wp2;go_ret;exact⟨_,L,rfl,hbel,hL,HC.o⟩
def lW (B:Nat) (wr:W_) (g n:Nat) (q:List Nat):Prop:=wr.ownsRow B 3 1 (s_ g q.length n) q.length (bY (Pu.jF q))
theorem Lt {x:V_} {t:TypeId} (j:Nat) (u:V_) (h:[x][j]?=some u):(w.alloc (c_ #[x] t)).cell? (((a_ w.heap.size 0):Addr).add j)=some u:=by
 match j,h with
 | 0,h=>simp at h;subst h;simp [Addr.add]
theorem lW.cell {B:Nat} {wr:W_} {g n:Nat} {q:List Nat} (h:lW B wr g n q) {t:Nat} (ht:t<q.length):wr.cell? (a_ g t)=some (I_ ((Pu.qg q t:Nat):Int)):=by
 have:=h.cells (g:=g) rfl t _ (qO (Pu.jF q) t (by rw [ZC];exact ht));have e:(Pu.jF q).getD t 0=((Pu.qg q t:Nat):Int):=ZB q t;rw [e] at this;by_cases hj:t=0
 .subst hj;simpa [Addr.add] using this
 .simpa [Addr.add,hj] using this
theorem lW.snoc {B:Nat} {k:Nat} {q:List Nat} {a:Int} (ha:0<=a) (hk:k=q.length+1) (h:wr.ownsRow B 3 1 (s_ g k n) k (bY (Pu.jF q)++[I_ a])):lW B wr g n (q++[a.toNat]):=by unfold lW;rw [VC q a ha];subst hk;simpa [bY] using h
def aba (L:List Int) (n:Nat) (w:W_) (e:Ending) (w':W_):Prop:=∃g,e=.returned (s_ g (Pu.fr L n).length n)/\B_ w w'/\lW w.heap.size w' g n (Pu.fr L n)
theorem Wx (ao:Option Addr) (cap:Nat) (L:List Int) (w:W_) (hv:vI w (.slice ao L.length cap) L) (hn:L.length<=50000) :
  C_ 137 #[.slice ao L.length cap] w (aba L L.length w):=by
 obtain⟨aS,hi,hz0,hz1,hz2⟩:=ip_ Tryz.info3;obtain⟨ao',cap',he,hc1,hc2,nK⟩:=hv.read;simp only [Value.slice.injEq,true_and] at he;obtain⟨rfl,rfl⟩:=he;clear hv;go_enter Tryz.func137,Tryz.ntmps137
 go_wp2_with (at_make;refine wpList_make_own _ rfl _ _ 31 rfl w.heap.size 3 aS (I_ 0) 1 Tryz.underlying31 hi hz0 hz1 _ _ _ L.length rfl rfl rfl (by rw [hz2];omega) (by unfold maxLen;omega) di ?_;intro w1 fH lT)
 have iE:B_ w w1:=(Br_ _ _).grown lT di (fun k h=>by cases h);have HO:Hid (lW w.heap.size w1 w.heap.size L.length (Pu.fr L 0)):=fH;clear fH lT
 go_loopw [3,11] (fun f i wr=>∃k:Nat,k<=L.length/\i=I_ k/\f=s_ w.heap.size (Pu.fr L k).length L.length/\B_ w wr/\lW w.heap.size wr w.heap.size L.length (Pu.fr L k)) (fun _ i _=>L.length-(intOf i).toNat)
 case atStart=>exact⟨0,zl_ _,rfl,rfl,iE,HO.o⟩
 case round=>
  clear HO iE;obtain⟨k,hk,rfl,rfl,hbel,hF⟩:=hrel;by_cases hlt:k<L.length
  .obtain⟨b,off,rfl,hb,hc0⟩:=nK k hlt;clear nK;have g0:=(hbel.cell (p:=(a_ b (off+k))) hb).trans hc0;clear hc0;have hfl:=aeh L k;cases hz:(Pu.aU L k == 0)
   .go_wp2
    go_roundw
    case rel=>exact⟨k+1,by omega,by go_num,by rw [adl L k hz],hbel,by rw [adl L k hz];exact hF⟩
    case measure=>simp [intOf];omega
   .have HF:=bK hF;clear hF
    go_wp2_with (at_builtin;refine wpList_append_fits _ rfl (.tmp 18) (.tmp 20) 31 rfl w.heap.size 3 aS 1 Tryz.underlying31 hi hz1 w.heap.size (Pu.fr L k).length L.length (bY (Pu.jF (Pu.fr L k))) rfl (oa_ HF.o _) (a_ wr.heap.size 0) 1 1 [I_ k] rfl rfl Lt (by intro u hu;simp at hu;subst hu;rfl) (by omega) ?_;intro w2 dw bS)
    have hF2:=lW.snoc (by omega) rfl dw;rw [tn_,<-YE L k hz] at hF2;have nY:B_ w w2:=(hbel.alloc hbel.size _).grown bS (by have:=hbel.size;simp;omega) (fun k' h=>by simp at h;omega);have adr:(Pu.fr L (k+1)).length=(Pu.fr L k).length+1:=by rw [YE L k hz];simp
    have HL:=bK adr;clear dw bS adr;go_wp2
    go_roundw
    case rel=>exact⟨k+1,by omega,by go_num,by rw [HL.o],nY,hF2⟩
    case measure=>simp [intOf];omega
  .have hkl:k=L.length:=by omega
   subst hkl;go_wp2;go_ret;exact⟨_,rfl,hbel,hF⟩
theorem Hy {x:V_} {t:TypeId} (hn:n=w.heap.size) (j:Nat) (u:V_) (h:[x][j]?=some u):(w.alloc (c_ #[x] t)).cell? (((a_ n 0):Addr).add j)=some u:=by subst hn;exact Lt j u h
theorem gY.ae3 (h:gY w wr g n L) (hn:L.length=n):vI wr (s_ g L.length n) L:=by subst hn;exact zM h rfl
theorem lW.other {B:Nat} {g' m:Nat} {q:List Nat} (h:lW B wr g n q) (hL:gY w wr g' m L) (hne:g≠g') (v:Nat) (y:V_):lW B (wr.setCell (a_ g' v) y) g n q:=by refine World.ownsRow.kept h (World.ownsRow.stored hL v y).2 (.inr ?_);simp [Value.ownBlock];exact hne
theorem gY.lt (h:gY w wr g n L):w.heap.size<=g/\g<wr.heap.size:=ol_ h g rfl
theorem gY.grown {w2:W_} {g':Nat} (h:gY w wr g n L) (hg:wr.grownBy w2 (some g')) (hne:g≠g'):gY w w2 g n L:=
 World.ownsRow.kept h hg (.inr (by simp [Value.ownBlock];exact hne))
theorem Mh (v:V_) (l:List dY) (w:W_) (hv:Code w v l) (ht:nJ l) (hn:l.length<=50000) :
  C_ 109 #[v] w (zf (¬wo l) w):=by
 obtain⟨aS,hi,hz0,hz1,hz2⟩:=ip_ Tryz.info3;have HT:=bK ht;clear ht;have HV:=bK hv;obtain⟨ao,cap,rfl,hc1,hc2,nK⟩:=hv.read;clear hv;go_enter Tryz.func109,Tryz.ntmps109
 go_wp2_with fail
 refine (DZ _ l w HV.o HT.o hn).mono ?_
 rintro e w1 ⟨gl,L,rfl,hb1,hL,hcnt⟩;have hLl:L.length=l.length:=hcnt.1;have hI:=hL.ae3 hLl;have HC:=bK hcnt;rw [hLl] at hI;have HLl:=bK hLl;clear hcnt hLl
 go_wp2_with fail
 have hU:=Wx (some (a_ gl 0)) l.length L w1 (by rw [HLl.o];exact hI) (by rw [HLl.o];exact hn);rw [HLl.o] at hU;refine hU.mono ?_
 rintro e w2 ⟨gf,rfl,hb2,hF⟩;clear hU hI;have nY:=iT hb1 hb2;have hL2:gY w w2 gl l.length L:=bU hL hb2 di;have hgl:=hL.lt;have hgf:w1.heap.size<=gf:=(ol_ hF gf rfl).1;have hne:gf≠gl:=by omega
 have hw1:=hb1.size;have abT:w.heap.size<=gl:=hgl.1;have hgf':w.heap.size<=gf:=by omega
 have HI:Hid (Pu.Inv l L (Pu.fr L l.length) [] []):=Vg HC.o;have HF:=bK hF;have HL2:=bK hL2;have HB2:=bK nY;clear hL hL2 hF hb1 hb2 hgl hw1 HC HLl nY
 go_wp2_with fail
 go_loopw [4,5] (fun f t wr=>∃(q:List Nat) (tn:Nat) (L':List Int),tn<=q.length/\f=s_ gf q.length l.length/\t=I_ tn/\B_ w wr/\gY w wr gl l.length L'/\lW w1.heap.size wr gf l.length q/\Pu.Inv l L' q (q.take tn) []) (fun _ t _=>l.length-(intOf t).toNat)
 case atStart=>exact⟨Pu.fr L l.length,0,L,zl_ _,rfl,rfl,HB2.o,HL2.o,HF.o,HI.o⟩
 case round=>
  clear HF HL2 HB2 HI;obtain⟨q,tn,L',htn,rfl,rfl,hbel,hL,hF,hinv⟩:=hrel;have hql:=hinv.AP;have HI:=bK hinv;clear hinv;by_cases hlt:tn<q.length
  .obtain⟨hI1,hat⟩:=Vf HI.o hlt;have HI1:=bK hI1;clear hI1 HI;have hfc:=hF.cell hlt;generalize hat':Pu.qg q tn=a at *;clear hat';obtain⟨b,off,rfl,hb,hc0,hc1',hc2',Jo⟩:=nK a hat;clear nK;have g0:=(hbel.cell (p:=(a_ b (off+a*4))) hb).trans hc0;have g1:=(hbel.cell (p:=(a_ b (off+a*4+1))) hb).trans hc1';have g2:=(hbel.cell (p:=(a_ b (off+a*4+2))) hb).trans hc2';have g3:=(hbel.cell (p:=(a_ b (off+a*4+3))) hb).trans Jo;clear hc0 hc1' hc2' Jo
   go_wp2_with fail
   refine (yh (Pu.aO l a) a _ (by omega) (by omega)).mono ?_
   rintro e w3 ⟨rfl,hb3⟩;have Ii:=iT hbel hb3;have hL3:gY w w3 gl l.length L':=bU hL hb3 di;have hF3:lW w1.heap.size w3 gf l.length q:=bU hF hb3 di;clear g0 g1 g2 g3 hb3 hL hF hfc hbel;generalize hA:Pu.aP (Pu.aO l a) (a:Int)=x;generalize hB:Pu.aQ (Pu.aO l a)=x';have HA:=bK hA;have HB:=bK hB;clear hA hB;have HTL:Hid ((q.take (tn+1)).length=tn+1):=by show (q.take (tn+1)).length=tn+1;rw [List.length_take];omega
   generalize hTT:q.take (tn+1)=T at *;clear hTT
   go_wp2_with fail
   go_loopw [4,29] (fun f j wq=>∃(jn:Nat) (q':List Nat) (WT:List Int),jn<=2/\j=I_ jn/\f=s_ gf q'.length l.length/\B_ w wq/\gY w wq gl l.length WT/\lW w1.heap.size wq gf l.length q'/\Pu.Inv l WT q' T (Pu.rest l a jn)) (fun _ j _=>2-(intOf j).toNat)
   case atStart=>exact⟨0,q,L',by omega,rfl,rfl,Ii,hL3,hF3,HI1.o⟩
   case round=>
    clear Ii hL3 hF3 HI1;obtain⟨jn,q',WT,hjn,rfl,rfl,lu,Ay,hFq,hinv⟩:=hrel;have hql':=hinv.AP;have HJ:=bK hinv;clear hinv;have f0:∀w,(Instr.index 252 (.agg #[I_ x,I_ x']) (I_ 0)).run Tryz.prog w=.ok (I_ x) w:=fun _=>by kernel_rfl
    have f1:∀w,(Instr.index 252 (.agg #[I_ x,I_ x']) (I_ 1)).run Tryz.prog w=.ok (I_ x') w:=fun _=>by kernel_rfl
    match jn,hjn with
    | 0,_=>
     cases hbl:Pu.uo x l.length
     .go_wp2_with (go_at_call 133;refine (kY _ _ _).mono ?_;rintro e w' ⟨rfl,rfl⟩)
      go_roundw
      case rel=>exact⟨1,q',WT,by omega,rfl,rfl,lu,Ay,hFq,ab0 HT.o hat HA.o HJ.o hbl⟩
      case measure=>simp [intOf]
     .have kU:=HJ.o.len;have hab:=xf hbl;have hbd:=Y6 HJ.o (v:=x.toNat) (by omega);have qD:=Ay.cell (v:=x.toNat) (by omega);have hfz:=Ay.frozen x.toNat;have YY:=Y7 HT.o hat HA.o HJ.o hbl;have HY:=bK YY;clear kU YY;cases hz:(Pu.aU WT x.toNat-1 == 0)
      .go_wp2_with (go_at_call 133;refine (kY _ _ _).mono ?_;rintro e w' ⟨rfl,rfl⟩)
       go_roundw
       case rel=>exact⟨1,q',_,by omega,rfl,rfl,lu.setCell abT _,Ay.store _ _,hFq.other Ay hne _ _,HY.o.2 hz⟩
       case measure=>simp [intOf]
      .have hI':=HY.o.1 hz;have hqq:=hI'.AP;simp only [la_,List.length_singleton] at hqq;have HI':=bK hI';clear hI' HY;have HF':Hid (lW w1.heap.size (wr.setCell (a_ gl (x.toNat)) (I_ (Pu.aU WT x.toNat-1))) gf l.length q'):=hFq.other Ay hne _ _
       go_wp2_with (first | (go_at_call 133;refine (kY _ _ _).mono ?_;rintro e w' ⟨rfl,rfl⟩) | (at_builtin;refine wpList_append_fits _ rfl (.tmp 48) (.tmp 50) 31 rfl w1.heap.size 3 aS 1 Tryz.underlying31 hi hz1 gf q'.length l.length (bY (Pu.jF q')) rfl (oa_ HF'.o _) (a_ wr.heap.size 0) 1 1 [I_ x] rfl rfl (Hy (by simp)) (by intro u hu;simp at hu;subst hu;rfl) (by omega) ?_;intro w4 uE nO))
       have hF4:=lW.snoc (by omega) rfl uE;have hL4:gY w w4 gl l.length _:=gY.grown (oa_ (Ay.store x.toNat (Pu.aU WT x.toNat-1)) _) nO (by omega);have hsz:=lu.size;have zz:B_ w w4:=((lu.setCell abT _).alloc (by simp;omega) _).grown nO (by simp;omega) (fun k' h=>by simp at h;omega);have HL4:Hid ((q'++[x.toNat]).length=q'.length+1):=by show (q'++[x.toNat]).length=q'.length+1;simp
       clear uE nO hsz qD hfz HF' Ay hFq lu;go_wp2
       go_roundw
       case rel=>exact⟨1,q'++[x.toNat],_,by omega,rfl,by rw [HL4.o],zz,hL4,hF4,HI'.o⟩
       case measure=>simp [intOf]
    | 1,_=>
     cases hbl:Pu.uo x' l.length
     .go_wp2_with (go_at_call 133;refine (kY _ _ _).mono ?_;rintro e w' ⟨rfl,rfl⟩)
      go_roundw
      case rel=>exact⟨2,q',WT,by omega,rfl,rfl,lu,Ay,hFq,ab1 HT.o hat HB.o HJ.o hbl⟩
      case measure=>simp [intOf]
     .have kU:=HJ.o.len;have hab:=xf hbl;have hbd:=Y6 HJ.o (v:=x'.toNat) (by omega);have qD:=Ay.cell (v:=x'.toNat) (by omega);have hfz:=Ay.frozen x'.toNat;have YY:=Y8 HB.o HJ.o hbl;have HY:=bK YY;clear kU YY;cases hz:(Pu.aU WT x'.toNat-1 == 0)
      .go_wp2_with (go_at_call 133;refine (kY _ _ _).mono ?_;rintro e w' ⟨rfl,rfl⟩)
       go_roundw
       case rel=>exact⟨2,q',_,by omega,rfl,rfl,lu.setCell abT _,Ay.store _ _,hFq.other Ay hne _ _,HY.o.2 hz⟩
       case measure=>simp [intOf]
      .have hI':=HY.o.1 hz;have hqq:=hI'.AP;simp only [la_,List.length_singleton] at hqq;have HI':=bK hI';clear hI' HY;have HF':Hid (lW w1.heap.size (wr.setCell (a_ gl (x'.toNat)) (I_ (Pu.aU WT x'.toNat-1))) gf l.length q'):=hFq.other Ay hne _ _
       go_wp2_with (first | (go_at_call 133;refine (kY _ _ _).mono ?_;rintro e w' ⟨rfl,rfl⟩) | (at_builtin;refine wpList_append_fits _ rfl (.tmp 48) (.tmp 50) 31 rfl w1.heap.size 3 aS 1 Tryz.underlying31 hi hz1 gf q'.length l.length (bY (Pu.jF q')) rfl (oa_ HF'.o _) (a_ wr.heap.size 0) 1 1 [I_ x'] rfl rfl (Hy (by simp)) (by intro u hu;simp at hu;subst hu;rfl) (by omega) ?_;intro w4 uE nO))
       have hF4:=lW.snoc (by omega) rfl uE;have hL4:gY w w4 gl l.length _:=gY.grown (oa_ (Ay.store x'.toNat (Pu.aU WT x'.toNat-1)) _) nO (by omega);have hsz:=lu.size;have zz:B_ w w4:=((lu.setCell abT _).alloc (by simp;omega) _).grown nO (by simp;omega) (fun k' h=>by simp at h;omega);have HL4:Hid ((q'++[x'.toNat]).length=q'.length+1):=by show (q'++[x'.toNat]).length=q'.length+1;simp
       clear uE nO hsz qD hfz HF' Ay hFq lu;go_wp2
       go_roundw
       case rel=>exact⟨2,q'++[x'.toNat],_,by omega,rfl,by rw [HL4.o],zz,hL4,hF4,HI'.o⟩
       case measure=>simp [intOf]
    | 2,_=>
     clear f0 f1;go_wp2
     go_roundw
     case rel=>exact⟨q',tn+1,WT,(SY HJ.o HTL.o).2,rfl,by go_num,lu,Ay,hFq,(SY HJ.o HTL.o).1⟩
     case measure=>simp [intOf];omega
  .have hout:=ab2 HT.o HI.o htn hlt;have HO:=bK hout.1;have htl:=hout.2;clear hout;go_wp2;go_ret;exact mQ (by simp only [decide_eq_true_eq];rw [<-HO.o]) hbel
theorem vI.form {v:V_} {l:List Int} (h:vI w v l):∃ao cap,v=.slice ao l.length cap/\l.length<=cap/\cap<=9223372036854775807:=by obtain⟨ao,cap,h1,h2,h3,_⟩:=h.read;exact⟨ao,cap,h1,h2,h3⟩
theorem qJ.form {v:V_} {l:List mJ} (h:qJ w v l):∃ao cap,v=.slice ao l.length cap/\l.length<=cap/\cap<=9223372036854775807:=by obtain⟨ao,cap,h1,h2,h3,_⟩:=h.read;exact⟨ao,cap,h1,h2,h3⟩
theorem Code.form {v:V_} {l:List dY} (h:Code w v l):∃ao cap,v=.slice ao l.length cap/\l.length<=cap/\cap<=9223372036854775807:=by obtain⟨ao,cap,h1,h2,h3,_⟩:=h.read;exact⟨ao,cap,h1,h2,h3⟩
theorem R9 {W w1:W_} (hb:B_ W w1):(∀b o,b<W.heap.size->w1.cell? (a_ b o)=W.cell? (a_ b o))/\(∀b o,b<W.heap.size->w1.frozen? (a_ b o)=W.frozen? (a_ b o)):=
 ⟨fun b _ h=>hb.cell (p:=(a_ b (_))) h,fun b _ h=>hb.frozen (p:=(a_ b (_))) h⟩
theorem V7 (ve vr vc:V_) (p:oC) (w:W_) (hE:vI w ve p.ents) (hR:qJ w vr p.rules) (hC:Code w vc p.code) :
  C_ 75 #[.agg #[ve,vr,vc]] w (zf (iy p) w):=by
 obtain⟨ae,ce,rfl,he1,he2⟩:=hE.form;obtain⟨ar,cr,rfl,hr1,hr2⟩:=hR.form;obtain⟨ac,cc,rfl,hc1,hc2⟩:=hC.form;have HE:=bK hE;have HR:=bK hR;have HC:=bK hC;clear hE hR hC;go_enter Tryz.func75,Tryz.ntmps75
 go_wp2_with fail
 have b0:=(Br_ w.heap.size w).alloc di (c_ #[.slice ae p.ents.length ce,.slice ar p.rules.length cr,.slice ac p.code.length cc] 43);have HB0:=bK b0;clear b0;refine (Au _ p.ents p.code.length _ (HE.o.below HB0.o) (by omega)).mono ?_
 rintro e w1 ⟨b1,rfl,hb1,hB1⟩;have iE:=Gr (Br_ _ _) hB1;have hc1':=(R9 hB1).1;cases b1
 .go_wp2;go_ret;exact mQ (dW (fun h=>Bool.noConfusion (hb1.2 h.1))) iE
 have hE1:=hb1.1 rfl;have hel:=hE1.1;have HE1:=bK hE1;clear hE1 hb1
 go_wp2_with fail
 have hz1:w.heap.size<w1.heap.size:=by have:=hB1.size;simp at this;omega
 clear hB1;refine (Fj _ p.rules p.ents.length _ (HR.o.below iE) (by omega) (by omega)).mono ?_
 rintro e w2 ⟨b2,rfl,hb2,hB2⟩;have nY:=iT iE hB2;have hc2':=(R9 hB2).1;cases b2
 .go_wp2;go_ret;exact mQ (dW (fun h=>Bool.noConfusion (hb2.2 h.2.1))) nY
 have hR1:=hb2.1 rfl;have hrl:=hR1.1;have HR1:=bK hR1;clear hR1 hb2
 go_wp2_with fail
 have hz2:w.heap.size<w2.heap.size:=by have:=hB2.size;omega
 clear hB2;refine (Gu _ p.code p.rules.length _ (HC.o.below nY) (by omega)).mono ?_
 rintro e w3 ⟨b3,rfl,hb3,hB3⟩;have Ii:=iT nY hB3;have Jo:=(R9 hB3).1;cases b3
 .go_wp2;go_ret;exact mQ (dW (fun h=>Bool.noConfusion (hb3.2 h.2.2.1))) Ii
 have hC1:=hb3.1 rfl;have hcl:=hC1.1;have HC1:=bK hC1;clear hC1 hb3
 go_wp2_with fail
 have hz3:w.heap.size<w3.heap.size:=by have:=hB3.size;omega
 clear hB3;refine (Mh _ p.code _ (HC.o.below Ii) HC1.o.tight (by omega)).mono ?_
 rintro e w4 ⟨b4,rfl,hb4,hB4⟩;have zz:=iT Ii hB4;go_wp2;go_ret
 refine mQ ?_ zz;constructor
 .intro h;have h4:b4=false:=by simpa using h
  refine⟨HE1.o,HR1.o,HC1.o,?_⟩;apply Classical.byContradiction;intro hn;have:=hb4.2 hn;rw [h4] at this;cases this
 .intro h;cases b4
  .rfl
  .exact absurd h.2.2.2 (hb4.1 rfl)
end Go.Proofs.YtmccnmgaoppogaaGreat
