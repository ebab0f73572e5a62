import Derived.Test.YtmccnmgaoppogabGreatuKbq
import Derived.Test.YtmccnmgaoppogabGreatuU2
namespace Go.Proofs.YtmccnmgaoppogabGreat
open Pu
set_option linter.all false
open Go.Proofs.Tryz Tryz
set_option maxRecDepth 100000
set_option maxHeartbeats 8000000
open Go.RowKit
variable {W W':W_} {E:bI} {g:Nat} {row:Option Nat}
def Own(L g:Nat)(v:V_):Prop:=∀x,v.ownBlock=some x->L<=x/\x<g
def oW(L g:Nat)(z:oU):Prop:=Own L g z.e/\Own L g z.r/\Own L g z.c
def Ds(P:oU->Prop)(W:W_)(a:Nat)(E:bI)(C:bJ):Prop:=
 ∃z f,P z/\dh W a 105 (kJ E z (uV E z C))/\LX W E.p z/\Pu.Good E f/\rW E (rP E.p) C
def Aj(P:oU->Prop)(a:Nat)(E:bI)(C:bJ)(w:W_)(e:Ending)(w':W_):Prop:=
 ∃D b,rW E (rP E.p) D/\e=.returned (.tuple #[b,I_ D.err])/\w'.ownsRow w.heap.size 67 5 b (D.dU.length-C.dU.length) (fw (D.dU.drop C.dU.length))/\Ds P w' a E D/\w.grownBy w' (some a)
theorem Ds.below{P:oU->Prop}{W W':W_}{a:Nat}{E:bI}{C:bJ}(h:Ds P W a E C)(c:B_ W W'):Ds P W' a E C:=by obtain⟨z,f,d,b,e,i⟩:=h;exact⟨z,f,d,bO b c (bP b),e.below c,i⟩
theorem Ds.lt{P:oU->Prop}{a:Nat}{C:bJ}(h:Ds P W a E C):a<W.heap.size:=by obtain⟨z,f,_,b,_⟩:=h;exact bP b
theorem Ds.dU{P:oU->Prop}{W:W_}{b:Nat}{E:bI}{C:bJ}(h:Ds P W b E C):C.dU.length<=E.s.size:=by obtain⟨z,f,_,_,_,a,c⟩:=h;have s:=c.1.inv a (YZ a);have:=s.dU;have:=s.within;have:=s.looked;omega
theorem P6(P:oU->Prop)(b:Nat)(E:bI)(C:bJ)(a:Y_)(w:W_)(h:Ds P w b E C)(p:C.err=0)(j:E.ended=false)(A:E.s.size+a.size<=1099511627776) :
  Calls prog 27 #[p_ b,.string a] w (Aj P b (E.on a false) C w):=by
 have I:=h.dU;obtain⟨z,f,c,d,q,n,y⟩:=h;have v:=bL c;clear c;have G:=bQ 9 d (u:=I_ 0) (by rw[<-p];rfl);have F:=bQ 7 d (u:=.bool false) (by rw[<-j];rfl);have B:=bQ 6 d rfl;have H:=bM d 6;have l:dh (w.setCell (a_ b 6) (.string (E.s++a))) b 105 (kJ (E.on a false) z (uV E z C)):=by
  have c:=cK d 6 (.string (E.s++a));have e:(kJ E z (uV E z C)).set 6 (.string (E.s++a))=kJ (E.on a false) z (uV E z C):=by unfold kJ bI.on;rw[j];rfl
  rw[e]at c;exact c
 have i:=gs_ w b 6 (.string (E.s++a));have r:LX (w.setCell (a_ b 6) (.string (E.s++a))) (E.on a false).p z:=q.on d d_ d_ d_ i;have c:Pu.Good (E.on a false) f:=n.on a false;have e:(E.on a false).s.size<=1099511627776:=by rw[nD];exact A
 have k:=bL (J9 f b (E.on a false) z C.dU.length (I_ C.err) _ _ _ _ _ _ _ (w.setCell (a_ b 6) (.string (E.s++a))) c e o_ l r);have s:=bL i;have sz:(w.setCell (a_ b 6) (.string (E.s++a))).heap.size=w.heap.size:=by simp[World.setCell]
 have x:=bL sz;have t:=bL c;clear l r i d q n c e y p j sz;go_in;go_wp2_with fail;refine k.o.mono ?_;clear k;rintro e r ⟨D,q,i,rfl,d,k,n,l⟩;have c:Hid (Aj P b (E.on a false) C w (.returned (.tuple #[q,I_ D.err])) r):=by rw[x.o]at d;exact⟨D,q,i,rfl,d,⟨z,f,v.o,k,n,t.o,i⟩,Lib.grownBy_trans s.o l⟩
 clear i d k n l;go_wp2;go_ret2;exact c.o
theorem aam(s:Y_):s++fJ=s:=by apply ByteArray.ext;simp[fJ]
theorem IP(P:oU->Prop)(a:Nat)(E:bI)(C:bJ)(w:W_)(h:Ds P w a E C)(n:C.err=0)(l:E.ended=false)(y:E.s.size<=1099511627776) :
  Calls prog 29 #[p_ a] w (Aj P a (E.on fJ true) C w):=by
 have G:=h.dU;obtain⟨z,f,b,c,p,k,x⟩:=h;have t:=bL b;clear b;have B:=bQ 9 c (u:=I_ 0) (by rw[<-n];rfl);have A:=bQ 7 c (u:=.bool false) (by rw[<-l];rfl);have F:=bM c 7;have j:dh (w.setCell (a_ a 7) (.bool true)) a 105 (kJ (E.on fJ true) z (uV E z C)):=by
  have b:=cK c 7 (.bool true);have e:(kJ E z (uV E z C)).set 7 (.bool true)=kJ (E.on fJ true) z (uV E z C):=by unfold kJ bI.on;rw[aam];rfl
  rw[e]at b;exact b
 have e:=gs_ w a 7 (.bool true);have q:LX (w.setCell (a_ a 7) (.bool true)) (E.on fJ true).p z:=p.on c d_ d_ d_ e;have b:Pu.Good (E.on fJ true) f:=k.on fJ true;have d:(E.on fJ true).s.size<=1099511627776:=by rw[nD];exact y
 have i:=bL (J9 f a (E.on fJ true) z C.dU.length (I_ C.err) _ _ _ _ _ _ _ (w.setCell (a_ a 7) (.bool true)) b d o_ j q);have r:=bL e;have sz:(w.setCell (a_ a 7) (.bool true)).heap.size=w.heap.size:=by simp[World.setCell]
 have v:=bL sz;have s:=bL b;clear j q e c p k b d x n l sz;go_in;go_wp2_with fail;refine i.o.mono ?_;clear i;rintro e q ⟨D,p,d,rfl,c,i,k,j⟩;have b:Hid (Aj P a (E.on fJ true) C w (.returned (.tuple #[p,I_ D.err])) q):=by rw[v.o]at c;exact⟨D,p,d,rfl,c,⟨z,f,t.o,i,k,s.o,d⟩,Lib.grownBy_trans r.o j⟩
 clear d c i k j;go_wp2;go_ret2;exact b.o
def E5(code:Int)(w:W_)(e:Ending)(w':W_):Prop:=e=.returned (.tuple #[n_,I_ code])/\B_ w w'
theorem Mh(P:oU->Prop)(k:Nat)(E:bI)(C:bJ)(q:Y_)(w:W_)(h:Ds P w k E C)(d:C.err≠0\/E.ended=true) :
  Calls prog 27 #[p_ k,.string q] w (E5 (shut true C.err) w):=by
 obtain⟨z,f,-,b,l,i,n⟩:=h;by_cases c:C.err=0;have a:E.ended=true:=by
  rcases d with h | h
  .exact absurd c h
  .exact h
 have p:=bQ 9 b (u:=I_ 0) (by rw[<-c];rfl);have r:=bQ 7 b (u:=.bool true) (by rw[<-a];rfl);have e:shut true C.err=8:=by unfold shut;rw[if_neg o_,if_pos rfl]
 rw[e];clear b l i n d a c e;rotate_left;have p:=bN (j:=9) b rfl;have a:(C.err == 0)=false:=by simpa using c
 have e:shut true C.err=C.err:=by unfold shut;rw[if_pos c]
 rw[e];clear b l i n d e;rotate_left;all_goals
  go_in
 .go_wp2;go_ret2;exact⟨rfl,Br_ _ _⟩
 .go_wp2_with fail;go_quiet (fail);go_wp2;go_ret2;exact⟨rfl,bd_ (Br_ _ _) _⟩
theorem G5(P:oU->Prop)(k:Nat)(E:bI)(C:bJ)(w:W_)(h:Ds P w k E C)(d:C.err≠0\/E.ended=true) :
  Calls prog 29 #[p_ k] w (E5 (shut true C.err) w):=by
 obtain⟨z,f,-,b,l,i,n⟩:=h;by_cases c:C.err=0;have a:E.ended=true:=by
  rcases d with h | h
  .exact absurd c h
  .exact h
 have p:=bQ 9 b (u:=I_ 0) (by rw[<-c];rfl);have q:=bQ 7 b (u:=.bool true) (by rw[<-a];rfl);have e:shut true C.err=8:=by unfold shut;rw[if_neg o_,if_pos rfl]
 rw[e];clear b l i n d a c e;rotate_left;have p:=bN (j:=9) b rfl;have a:(C.err == 0)=false:=by simpa using c
 have e:shut true C.err=C.err:=by unfold shut;rw[if_pos c]
 rw[e];clear b l i n d e;rotate_left;all_goals
  go_in
 .go_wp2;go_ret2;exact⟨rfl,Br_ _ _⟩
 .go_wp2_with fail;go_quiet (fail);go_wp2;go_ret2;exact⟨rfl,bd_ (Br_ _ _) _⟩
theorem af9(p:lZ)(b a:Int):rW (xR p b a) (rP p) (rP p):=
 ⟨.refl _,by unfold zQ;rw[if_pos (.inr (by show ((0:Nat):Int)<=0;omega))]⟩
def BM(P:oU->Prop)(w:W_)(g:Nat)(E:bI)(D:bJ):Prop:=∃f c d a e b,P (ZI c d a)/\(D.err=0->b=E.ended)/\Scn w g { E with ended:=b } D f c d a e
theorem BM.sc{P:oU->Prop}{w:W_}{D:bJ}(h:BM P w g E D):Sc w g E D:=by obtain⟨f,e,j,d,i,b,_,a,c⟩:=h;exact⟨f,e,j,d,i,b,a,c⟩
def rU(P:oU->Prop)(g:Nat)(E:bI)(C:bJ)(w:W_)(e:Ending)(w':W_):Prop:=
 ∃D Tk a,rW E C D/\D.dU=C.dU++Tk/\e=.returned (.tuple #[a,I_ D.err])/\w'.ownsRow w.heap.size 67 5 a Tk.length (fw Tk)/\BM P w' g E D/\w.grownBy w' (some g)
theorem Mt(P:oU->Prop)(g:Nat)(E:bI)(C:bJ)(c:Y_)(w:W_)(h:BM P w g E C)(A:E.ended=false)(J:E.s.size+c.size<=1099511627776) :
  Calls prog 56 #[p_ g,.string c] w (rU P g (E.on c false) C w):=by
 obtain⟨f,l,n,k,F,b,d,s,a⟩:=h;have y:=bL d;clear d;have p:=bL (wJ g _ l n k F C C.err w a.m);by_cases d:C.err=0;have t:=(s d).trans A;subst t;have i:=a.sta.within;have D:=a.sta.pos;have v:=a.sta.looked;obtain⟨N,O,rfl,e,u⟩:=a.h.form;have q:=a.m.cell (j:=24) rfl;have H:=NL w _ _ a.h;have z:nY { E with ended:=false } C=E.s.extract C.pos.toNat E.s.size:=by unfold nY;rw[if_neg o_]
 rw[z]at H q e;have x:Hid (E.s.extract C.pos.toNat E.s.size++c=(E.on c false).s.extract C.pos.toNat (E.on c false).s.size):=JE E.s c C.pos.toNat (by simp at i;omega);have AD:Hid (C_ 81 #[p_ g,.string (E.s.extract C.pos.toNat E.s.size++c)] w (EY f g (E.on c false) l n k C w)):=by show Calls _ _ _ _ _;rw[x.o];have r:=a.m;rw[d]at r;exact Da f g (E.on c false) l n k _ C w (a.good.on c false) (a.sta.on c false) d (by rw[nD];exact J) (r.env rfl rfl rfl rfl)
 have r:shut false C.err=0:=by simp[shut,d]
 rw[r]at p;have B:(E.s.extract C.pos.toNat E.s.size).size+c.size<=1099511627776:=by simp;omega
 clear a s A x z i D v e u;generalize E.s.extract C.pos.toNat E.s.size=R at *;rotate_left;have r:shut b C.err=C.err:=by simp[shut,d]
 have Q:(C.err != 0)=true:=by simpa using d
 have I:Hid (BM P w g (E.on c false) C):=by refine⟨f,l,n,k,F,b,y.o,fun e=>absurd e d,a.m.env rfl rfl rfl rfl,?_,a.good.on c b,a.sta.on c b⟩;have:=a.h;unfold nY at this |-;rw[if_pos d]at this |-;exact this
 rw[r]at p;clear a s;rotate_left;all_goals
  go_in;go_wp2_with fail;refine p.o.mono ?_;rintro e K ⟨rfl,rfl⟩;clear p
 .go_wp2_with fail;refine AD.o.mono ?_;rintro e L ⟨D,Tk,G,p,x,z,rfl,v,a,u⟩;have i:Hid (rU P g (E.on c false) C K (.returned (.tuple #[G,I_ D.err])) L):=⟨D,Tk,G,x,z,rfl,v,⟨f,l,n,k,p,false,y.o,fun _=>rfl,a⟩,u⟩;clear AD x z v a u;go_wp2;go_ret2;exact i.o
 .go_wp2;go_ret2;exact⟨C,[],_,⟨.refl _,AP d⟩,i_,rfl,World.ownsRow_nil _ _ _ _,I.o,World.grownBy.refl _ _⟩
theorem He(P:oU->Prop)(g:Nat)(E:bI)(C:bJ)(w:W_)(h:BM P w g E C)(G:E.ended=false)(O:E.s.size<=1099511627776) :
  Calls prog 58 #[p_ g] w (rU P g (E.on fJ true) C w):=by
 obtain⟨f,l,n,k,H,b,c,t,a⟩:=h;have B:=bL c;clear c;have p:=bL (wJ g _ l n k H C C.err w a.m);by_cases c:C.err=0;have u:=(t c).trans G;subst u;have i:=a.sta.within;have N:=a.sta.pos;have x:=a.sta.looked;obtain⟨Q,R,rfl,e,v⟩:=a.h.form;have q:=a.m;rw[c]at q;have y:=q.set 25 (.bool true) (E.on fJ true) rfl (D:=C) (fault':=0) rfl;have A:=bL (gs_ w g 25 (.bool true));have d:=a.h.on q.fB d_ A.o;have K:=a.m.cell (j:=25) rfl;have L:=a.m.frozen 25;have r:=y.cell (j:=24) rfl;have I:=NL _ _ _ d;have F:nY { E with ended:=false } C=E.s.extract C.pos.toNat E.s.size:=by unfold nY;rw[if_neg o_]
 rw[F]at I r e;have z:Hid (E.s.extract C.pos.toNat E.s.size=(E.on fJ true).s.extract C.pos.toNat (E.on fJ true).s.size):=by have:=JE E.s fJ C.pos.toNat (by simp at i;omega);show _=_;rw[show (E.on fJ true).s=E.s++fJ from rfl,<-this];apply ByteArray.ext;simp[fJ]
 have AD:Hid (C_ 81 #[p_ g,.string (E.s.extract C.pos.toNat E.s.size)] (w.setCell (a_ g 25) (.bool true)) (EY f g (E.on fJ true) l n k C (w.setCell (a_ g 25) (.bool true)))):=by show Calls _ _ _ _ _;rw[z.o];exact Da f g (E.on fJ true) l n k _ C _ (a.good.on fJ true) (a.sta.on fJ true) c (by rw[nD];exact O) y
 have s:shut false C.err=0:=by simp[shut,c]
 rw[s]at p;have J:Hid ((w.setCell (a_ g 25) (.bool true)).heap.size=w.heap.size):=by show _=_;simp[World.setCell]
 clear a t G z F i N x e v q y d;generalize E.s.extract C.pos.toNat E.s.size=T at *;rotate_left;have s:shut b C.err=C.err:=by simp[shut,c]
 have S:(C.err != 0)=true:=by simpa using c
 have z:Hid (BM P w g (E.on fJ true) C):=by refine⟨f,l,n,k,H,b,B.o,fun d=>absurd d c,a.m.env rfl rfl rfl rfl,?_,a.good.on fJ b,a.sta.on fJ b⟩;have:=a.h;unfold nY at this |-;rw[if_pos c]at this |-;exact this
 rw[s]at p;clear a t;rotate_left;all_goals
  go_in;go_wp2_with fail;refine p.o.mono ?_;rintro e F ⟨rfl,rfl⟩;clear p
 .go_wp2_with fail;refine AD.o.mono ?_;rintro e N ⟨D,Tk,y,p,v,x,rfl,i,a,q⟩;rw[J.o]at i;have d:Hid (rU P g (E.on fJ true) C F (.returned (.tuple #[y,I_ D.err])) N):=⟨D,Tk,y,v,x,rfl,i,⟨f,l,n,k,p,true,B.o,fun _=>rfl,a⟩,Lib.grownBy_trans A.o q⟩;clear AD v x i a q;go_wp2;go_ret2;exact d.o
 .go_wp2;go_ret2;exact⟨C,[],_,⟨.refl _,AP c⟩,i_,rfl,World.ownsRow_nil _ _ _ _,z.o,World.grownBy.refl _ _⟩
theorem WS(P:oU->Prop)(g:Nat)(E:bI)(C:bJ)(a:Y_)(w:W_)(h:BM P w g E C)(c:E.ended=false)(k:E.s.size+a.size<=1099511627776) :
  Calls prog 26 #[p_ g,.string a] w (rU P g (E.on a false) C w):=by
 have H:=bL (Mt P g E C a w h c k);clear h c k;go_in;go_wp2_with fail;refine H.o.mono ?_;rintro e p ⟨D,Tk,n,j,l,rfl,i,d,f⟩;have b:Hid (rU P g (E.on a false) C w (.returned (.tuple #[n,I_ D.err])) p):=⟨D,Tk,n,j,l,rfl,i,d,f⟩;clear H j l i d f;go_wp2;go_ret2;exact b.o
theorem Oo(P:oU->Prop)(g:Nat)(E:bI)(C:bJ)(w:W_)(h:BM P w g E C)(b:E.ended=false)(j:E.s.size<=1099511627776) :
  Calls prog 28 #[p_ g] w (rU P g (E.on fJ true) C w):=by
 have H:=bL (He P g E C w h b j);clear h b j;go_in;go_wp2_with fail;refine H.o.mono ?_;rintro e n ⟨D,Tk,l,i,k,rfl,f,c,d⟩;have a:Hid (rU P g (E.on fJ true) C w (.returned (.tuple #[l,I_ D.err])) n):=⟨D,Tk,l,i,k,rfl,f,c,d⟩;clear H i k f c d;go_wp2;go_ret2;exact a.o
def Wd(s:Y_)(b a:Int)(w:W_)(e:Ending)(w':W_):Prop:=
 (rX s b a/\∃g,e=.returned (.tuple #[p_ g,I_ 0])/\w.heap.size<=g/\B_ w w'/\BM (oW w.heap.size g) w' g (xR (eG s) b a) (rP (eG s)))\/
 (¬(Form s/\gu (eG s))/\e=.returned (.tuple #[.pointer none,I_ 2])/\B_ w w')\/
 ((Form s/\gu (eG s))/\¬((1<=b/\b<=64)/\(0<=a/\a<=8))/\e=.returned (.tuple #[.pointer none,I_ 3])/\B_ w w')
theorem Ul(s:Y_)(b a:Int)(w:W_)(Z:s.size<=9223372036854775807)(R:Nz b)(Q:Nz a) :
  Calls prog 19 #[.string s,I_ b,I_ a] w (Wd s b a w):=by
 go_in;go_wp2_with fail;refine (Hu s _ Z).mono ?_;rintro e B (⟨hF,y,ve,vr,vc,rfl,d,u,A,z⟩ | ⟨hF,rfl,d⟩);rotate_left
 .have f:=bL hF;have c:=bL d;clear hF d;go_wp2;go_ret2;exact .inr (.inl ⟨f.o,rfl,c.o.alloc c.o.size _⟩)
 .have f:(eG s).ents.length=nE s:=qR _ _ _;have v:(eG s).rules.length=nR s:=lH _ _ _;have x:(eG s).code.length=nC s:=tq _ _ _;rw[<-f]at u;rw[<-v]at A;rw[<-x]at z;have V:=y.1.1;have X:=y.2.1.1;have Y:=y.2.2.1.1;obtain⟨ge,k,rfl,T,U⟩:=dL u o_;obtain⟨t,l,rfl,r1,r2⟩:=dL A o_;obtain⟨r,j,rfl,c1,c2⟩:=dL z o_;have n:=bL (And.intro (iN u) (And.intro (iN A) (iN z)));have L:Hid (Lists B (eG s) _ _ _):=⟨dH u (zl_ _),dH A (zl_ _),dH z (zl_ _)⟩;have I:=EH u (i:=0) o_;have q:=bL (And.intro hF y);have c:=bL d;clear u A z hF y d f v x;by_cases f:b<1
  .have D:decide (b<1)=true:=dt_ f;go_wp2;go_ret2;exact .inr (.inr ⟨q.o,fun h=>o_,rfl,c.o.alloc c.o.size _⟩)
  by_cases x:64<b
  .have D:decide (b<1)=false:=dn_ f;have J:decide (64<b)=true:=dt_ x;go_wp2;go_ret2;exact .inr (.inr ⟨q.o,fun h=>o_,rfl,c.o.alloc c.o.size _⟩)
  by_cases C:a<0
  .have D:decide (b<1)=false:=dn_ f;have J:decide (64<b)=false:=dn_ x;have N:decide (a<0)=true:=dt_ C;go_wp2;go_ret2;exact .inr (.inr ⟨q.o,fun h=>o_,rfl,c.o.alloc c.o.size _⟩)
  by_cases F:8<a
  .have D:decide (b<1)=false:=dn_ f;have J:decide (64<b)=false:=dn_ x;have N:decide (a<0)=false:=dn_ C;have S:decide (8<a)=true:=dt_ F;go_wp2;go_ret2;exact .inr (.inr ⟨q.o,fun h=>o_,rfl,c.o.alloc c.o.size _⟩)
  have D:decide (b<1)=false:=dn_ f;have J:decide (64<b)=false:=dn_ x;have N:decide (a<0)=false:=dn_ C;have S:decide (8<a)=false:=dn_ F;have G:Hid ((1<=b/\b<=64)/\(0<=a/\a<=8)):=⟨⟨o_,o_⟩,⟨o_,o_⟩⟩;have K:=bL (c.o.alloc c.o.size (c_ #[s_ ge (eG s).ents.length k,s_ t (eG s).rules.length l,s_ r (eG s).code.length j] 42));have v:=bL ((Br_ B.heap.size B).alloc dF (c_ #[s_ ge (eG s).ents.length k,s_ t (eG s).rules.length l,s_ r (eG s).code.length j] 42));clear f x C F;go_wp2_with fail;refine (TZ ge k _ _ l _ _ j (eG s) b a _ ((v.o.cell (p:=(a_ ge 0)) (World.block_lt_of_cell? B (a_ ge 0) I)).trans I) o_ T U).mono ?_;rintro e C ⟨rfl,f⟩;have H:Hid (B.heap.size<=C.heap.size):=lt_ v.o.size f.size;have F:=bL (K.o.trans (f.mono (by have:=v.o.size;have:=c.o.size;omega)));have O:=bL ((L.o.below v.o).below f);clear f v K L c I;go_wp2_with (first | (refine El rfl 118 _ rfl (beginC (s_ ge (eG s).ents.length k) (s_ t (eG s).rules.length l) (s_ r (eG s).code.length j) b a (Pu.aU (eG s).ents 0)) k_ ?_));go_ret2;refine .inl ⟨⟨q.o,G.o⟩,C.heap.size,rfl,F.o.size,F.o.alloc F.o.size _,?_⟩;obtain⟨f,I⟩:=aa2 q.o.2 G.o.1 G.o.2;have v:dh (C.alloc (c_ (beginC (s_ ge (eG s).ents.length k) (s_ t (eG s).rules.length l) (s_ r (eG s).code.length j) b a (Pu.aU (eG s).ents 0)) 118)) C.heap.size 118 (beginC (s_ ge (eG s).ents.length k) (s_ t (eG s).rules.length l) (s_ r (eG s).code.length j) b a (Pu.aU (eG s).ents 0)).toList:=hn_ C (c_ (beginC (s_ ge (eG s).ents.length k) (s_ t (eG s).rules.length l) (s_ r (eG s).code.length j) b a (Pu.aU (eG s).ents 0)) 118);rw[NN]at v;refine⟨f,_,_,_,n_,false,⟨fun x c=>by cases c;exact⟨n.o.1.1,Nat.lt_of_lt_of_le n.o.1.2 H.o⟩,fun x c=>by cases c;exact⟨n.o.2.1.1,Nat.lt_of_lt_of_le n.o.2.1.2 H.o⟩,fun x c=>by cases c;exact⟨n.o.2.2.1,Nat.lt_of_lt_of_le n.o.2.2.2 H.o⟩⟩,fun _=>rfl,⟨v,O.o.below (kM _)⟩,.inl ⟨?_,rfl⟩,I,akk I⟩;unfold nY;rw[if_neg (by show ¬((0:Int)≠0);omega)];rfl
def Safe(W:W_)(L g:Nat)(row:Option Nat):Prop:=
 some g≠row/\∀b,row=some b->∀a t fr,W.heap[b]?=some (c_ a t fr)->(t≠142/\t≠181/\t≠144)/\t≠5/\(t=3\/t=48\/t=50->¬(L<=b/\b<g))
theorem tX{base e size n:Nat}{v:V_}{xs:List V_}(h:W.ownsRow base e size v n xs)(l:W.grownBy W' row)(d:∀g a,v.ownBlock=some g->W.heap[g]?=some (c_ a e (0,0))->some g≠row):W'.ownsRow base e size v n xs:=by
 rcases h with ⟨f,⟨rfl,i⟩ | ⟨g,b,a,rfl,j,c,k⟩⟩
 .exact⟨f,.inl ⟨rfl,i⟩⟩
 .have p:g<W.heap.size:=(Array.getElem?_eq_some_iff.1 c).1;exact⟨f,.inr ⟨g,b,a,rfl,j,by rw[l.block g p (d g a rfl c)];exact c,k⟩⟩
theorem Lists.jr{p:lZ}{l n k t:V_}{b:Bool}{L:Nat}(h:Lists W p l n k)(i:oW L g ⟨b,l,n,k,t⟩)(j:Safe W L g row)(f:W.grownBy W' row):Lists W' p l n k:=
 ⟨tX h.e f fun x a d c e=>(j.2 x e.symm a _ _ c).2.2 (.inl rfl) (i.1 x d),tX h.r f fun x a d c e=>(j.2 x e.symm a _ _ c).2.2 (.inr (.inl rfl)) (i.2.1 x d),tX h.c f fun x a d c e=>(j.2 x e.symm a _ _ c).2.2 (.inr (.inr rfl)) (i.2.2 x d)⟩
theorem Ru.jr{c:List aC}{f:Nat}(h:Ru W c f)(k:∀b,row=some b->∀cs t fr,W.heap[b]?=some (c_ cs t fr)->t≠142/\t≠181/\t≠144)(j:W.grownBy W' row):Ru W' c f:=by
 obtain⟨B,u,v,l,n,q,r,d,s⟩:=h;refine⟨B,u,v,l,n,q,r,⟨bR d.rb j (fun e=>?_),d.up,tX d.own j ?_⟩,tX s j ?_⟩
 .exact (k f e.symm _ _ _ d.rb).1 rfl
 .intro x a p i e;exact (k x e.symm a _ _ i).2.1 rfl
 .intro x a p i e;exact (k x e.symm a _ _ i).2.2 rfl
theorem LX.jr{W W':W_}{p:lZ}{z:oU}{L g:Nat}{row:Option Nat}(h:LX W p z)(r:oW L g z)(f:Safe W L g row)(d:W.grownBy W' row):LX W' p z:=by
 rcases h with ⟨u,v,s,rfl,c⟩ | ⟨j,k,a,c,l,n⟩
 .exact .inl ⟨u,v,s,rfl,c.jr r f d⟩
 .exact .inr ⟨j,k,a,c,l.jr (fun b e i t fr q=>(f.2 b e i t fr q).1) d,n⟩
theorem mW.jr{v:V_}{s:Y_}{L:Nat}(h:mW W v s)(d:Safe W L g row)(a:W.grownBy W' row):mW W' v s:=by
 rcases h with h | ⟨b,cap,cs,fr,h1,h2,h3,h4,h5⟩
 .exact .inl h
 .have c:b<W.heap.size:=(Array.getElem?_eq_some_iff.1 h4).1;refine .inr ⟨b,cap,cs,fr,h1,h2,h3,?_,h5⟩;rw[a.block b c (fun e=>(d.2 b e.symm cs _ _ h4).2.1 rfl)];exact h4
theorem BM.jr{W W':W_}{L g:Nat}{E:bI}{C:bJ}{row:Option Nat}(h:BM (oW L g) W g E C)(d:Safe W L g row)(c:W.grownBy W' row):BM (oW L g) W' g E C:=by obtain⟨f,k,n,j,l,b,e,i,a⟩:=h;exact⟨f,k,n,j,l,b,e,i,⟨bR a.m.fB c d.1,a.m.l.jr e d c⟩,a.h.jr d c,a.good,a.sta⟩
theorem Ds.jr{W W':W_}{L g:Nat}{E:bI}{C:bJ}{row:Option Nat}(h:Ds (oW L g) W g E C)(c:Safe W L g row)(b:W.grownBy W' row):Ds (oW L g) W' g E C:=by obtain⟨z,f,a,d,e,i⟩:=h;exact⟨z,f,a,bR d b c.1,e.jr a c b,i⟩
theorem BM.below{P:oU->Prop}{W W':W_}{g:Nat}{E:bI}{C:bJ}(h:BM P W g E C)(c:B_ W W'):BM P W' g E C:=by obtain⟨f,j,l,i,k,b,d,e,a⟩:=h;exact⟨f,j,l,i,k,b,d,e,a.m.below c,a.h.below c,a.good,a.sta⟩
theorem BM.fB{P:oU->Prop}{W:W_}{g:Nat}{E:bI}{C:bJ}(h:BM P W g E C):∃xs,dh W g 118 xs:=by obtain⟨f,i,k,e,j,b,c,d,a⟩:=h;exact⟨_,a.m.fB⟩
theorem Ds.fB{P:oU->Prop}{C:bJ}(h:Ds P W g E C):∃xs,dh W g 105 xs:=by obtain⟨z,f,b,a,c,d⟩:=h;exact⟨_,a⟩
theorem AQ(e:Int)(w:W_):Calls prog 22 #[I_ e] w (rV (I_ e) w):=by
 go_in;go_wp2;go_ret;exact⟨rfl,rfl⟩
theorem Qi(t u:V_)(l:List bK)(w:W_)(L N:Nat)(d:w.ownsRow L 67 5 t l.length (fw l))(e:w.ownsRow N 67 5 u l.length (fw l)) :
  Calls prog 30 #[t,u] w (Al (.bool true) w):=by
 have v:Hid (∀i,i<l.length->∃b a,t=s_ b l.length a/\b<w.heap.size/\w.cell? (a_ b (i*5))=some (I_ (l.getD i um).rule)/\w.cell? (a_ b (i*5+1))=some (I_ (l.getD i um).pos)/\w.cell? (a_ b (i*5+2))=some (I_ (l.getD i um).len)/\w.cell? (a_ b (i*5+3))=some (I_ (l.getD i um).line)/\w.cell? (a_ b (i*5+4))=some (I_ (l.getD i um).iU)):=fun i c=>by obtain⟨b,a,rfl,_,_⟩:=dL d o_;have q:=yK l i c;exact⟨b,a,rfl,(iN d).2,bV d q.1,bV d q.2.1,bV d q.2.2.1,bV d q.2.2.2.1,bV d q.2.2.2.2⟩
 have x:Hid (∀i,i<l.length->∃b a,u=s_ b l.length a/\b<w.heap.size/\w.cell? (a_ b (i*5))=some (I_ (l.getD i um).rule)/\w.cell? (a_ b (i*5+1))=some (I_ (l.getD i um).pos)/\w.cell? (a_ b (i*5+2))=some (I_ (l.getD i um).len)/\w.cell? (a_ b (i*5+3))=some (I_ (l.getD i um).line)/\w.cell? (a_ b (i*5+4))=some (I_ (l.getD i um).iU)):=fun i c=>by obtain⟨b,a,rfl,_,_⟩:=dL e o_;have q:=yK l i c;exact⟨b,a,rfl,(iN e).2,bV e q.1,bV e q.2.1,bV e q.2.2.1,bV e q.2.2.2.1,bV e q.2.2.2.2⟩
 obtain⟨J,O,rfl,R,r,-⟩:=iO d;obtain⟨K,Q,rfl,S,s,-⟩:=iO e;unfold maxLen at r s;clear d e;go_in;go_wp2_with fail;go_loopw [5] (fun i wr=>∃k:Nat,k<=l.length/\i=I_ k/\B_ w wr) (fun i _=>l.length-(intOf i).toNat);exact⟨0,zl_ _,rfl,Br_ _ _⟩;obtain⟨k,hk,rfl,a⟩:=hrel;by_cases j:k<l.length
 .obtain⟨f,U,n,b,y,z,A,B,C⟩:=v.o k j;obtain⟨i,V,q,c,D,F,G,H,I⟩:=x.o k j;obtain⟨rfl,rfl⟩:J=some (a_ f 0)/\O=U:=by simpa using n
  obtain⟨rfl,rfl⟩:K=some (a_ i 0)/\Q=V:=by simpa using q
  have X:=(a.cell (p:=(a_ f (k*5))) b).trans y;have Y:=(a.cell (p:=(a_ f (k*5+1))) b).trans z;have Z:=(a.cell (p:=(a_ f (k*5+2))) b).trans A;have g3:=(a.cell (p:=(a_ f (k*5+3))) b).trans B;have g4:=(a.cell (p:=(a_ f (k*5+4))) b).trans C;have h0:=(a.cell (p:=(a_ i (k*5))) c).trans D;have h1:=(a.cell (p:=(a_ i (k*5+1))) c).trans F;have h2:=(a.cell (p:=(a_ i (k*5+2))) c).trans G;have h3:=(a.cell (p:=(a_ i (k*5+3))) c).trans H;have h4:=(a.cell (p:=(a_ i (k*5+4))) c).trans I;have T:(k:Int)<l.length:=o_;clear y z A B C D F G H I v x n q;generalize (l.getD k um).rule=y0 at *;generalize (l.getD k um).pos=y1 at *;generalize (l.getD k um).len=y2 at *;generalize (l.getD k um).line=y3 at *;generalize (l.getD k um).iU=y4 at *;go_wp2_with fail;go_quiet (fail);go_wp2;go_roundw;case rel=>exact⟨k+1,o_,by go_num,bd_ a _⟩
  case measure=>simp[intOf];omega
 .go_wp2;go_ret;exact⟨rfl,a⟩
theorem Xi{f:Nat->Int}{E':bI}{C:bJ}(h:C.err=0->E.s=E'.s)(b:C.err=0->wY E' f C):((nY E C).size:Int)=zw E' C:=by
 unfold nY zw;by_cases a:C.err=0
 .rw [if_neg o_,if_neg o_,h a];have s:=b a;have:=s.pos;have:=s.within;have:=s.looked;simp;omega
 .rw [if_pos a,if_pos a];rfl
theorem Ou(g c:Nat)(P s:oU->Prop)(E E':bI)(C:bJ)(w:W_)(h:BM P w g E C)(G:Ds s w c E' C)(p:C.err=0->E.s=E'.s) :
  Calls prog 16 #[.agg #[p_ g,p_ c]] w (Al (.bool true) w):=by
 obtain⟨z,f,-,b,H,a,d⟩:=G;have q:=Xi (E:=E) (f:=f) p (fun _=>d.1.inv a (YZ a));have i:=bL (fun W (e:Sc W g E C)=>Qk g E C W e);have D:=bP b;have n:=bL h.sc;have r:=bL b;have F:=h.sc.lt;clear h p a d b;unfold acF at i;rw[q]at i;go_in;go_wp2_with fail;refine (i.o _ (n.o.below (kM _))).mono ?_;rintro e d ⟨rfl,b⟩;have l:=bL (((Br_ w.heap.size w).alloc dF (c_ #[p_ g,p_ c] 63)).trans (b.mono i_));have j:Hid (dh d w.heap.size 63 [p_ g,p_ c]):=bO (hn_ w _) b i_;have a:=bL (bO r.o l.o D);have N:=bQ 0 j.o rfl;have O:=bQ 1 j.o rfl;rcases H with ⟨U,V,T,rfl,_⟩ | ⟨L,rfl,_⟩;all_goals
  have B:=bQ 3 a.o rfl;have t:=bQ 10 a.o rfl;have u:=bQ 11 a.o rfl;have v:=bQ 12 a.o rfl;have x:=bQ 13 a.o rfl;have y:=bQ 14 a.o rfl;have A:=bQ 15 a.o rfl;have k:=bQ 16 a.o rfl;dsimp only[oU.st,ZI,ZR,cond_true,cond_false]at B k;have Q:=bP j.o;have R:=bP a.o;have I:w.heap.size≠d.heap.size:=o_;have S:c≠d.heap.size:=o_;have K:c≠d.heap.size+1:=o_;have J:w.heap.size≠d.heap.size+1:=o_;clear b i n q;generalize zw E' C=n at *;generalize C.pos=X at *;generalize C.line=Y at *;generalize C.iU=Z at *;generalize C.mode=y3 at *;generalize C.jy=y4 at *;generalize C.steps=i at *;by_cases b:i=0;subst b;rotate_left;focus have q:(i == 0)=false:=by simpa using b
  all_goals
   go_wp2;go_ret;exact⟨rfl,(l.o.alloc o_ _).alloc (by simp;omega) _⟩
theorem Ev(t e size:Nat)(d:prog.underlying t=some (.slice e))(j:(prog.info? e).map (·.size)=some size)(b:Option Addr)(n c:Nat)(f:b=none->c=0)(w:W_):(Instr.slice t (.slice b n c) none (some (I_ c)) none).run prog w=.ok (.slice b c c) w:=by
 cases hq:prog.info? e with
 | none=>simp[hq]at j
 | some i=>
  cases b with
  | none=>have:=f rfl;subst this;simp[go_sem,d,sizeOf,typeInfo,hq]
  | some a=>simp[go_sem,d,sizeOf,typeInfo,hq]
theorem Tryz.inft65 : (prog.info? 65).map (fun i=>(i.zero,i.size,i.bytes))=some (some n_,1,24):=k_
theorem Hl:(prog.info? 67).map (·.size)=some 5:=k_
end Go.Proofs.YtmccnmgaoppogabGreat
