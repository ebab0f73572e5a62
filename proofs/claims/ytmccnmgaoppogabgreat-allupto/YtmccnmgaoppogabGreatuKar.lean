import Derived.Test.YtmccnmgaoppogabGreatuHC
import Derived.Test.YtmccnmgaoppogabGreatuE24
namespace Go.Proofs.YtmccnmgaoppogabGreat
open Pu
set_option linter.all false
open Go.Proofs.Tryz Tryz
set_option maxRecDepth 100000
set_option maxHeartbeats 8000000
open Go.RowKit
namespace Pu
def RS(modes m:Int):Int:=if modes<=m then m+1 else modes
end Pu
theorem JL(g i:Nat)(s:Y_)(vn f:V_)(modes down:Int)(w:W_)(h:Db w g s i vn f modes down)(z:s.size<=1000)(n:fP (Pu.dN s i)) :
  Calls prog 104 #[p_ g] w (Z4 (I_ (Pu.dN s i-97)) g s (i+1) vn f (RS modes (Pu.dN s i-97)) down w):=by
 have t:i<s.size:=Pu.fK (s:=s) (i:=i) (by unfold fP at n;omega);have d:=fun w=>eB s (i:Int) i rfl o_ w;rw[<-mM t]at d;have A:=jJ i;have C:(i:Int)<s.size:=o_;have D:=kZ i;unfold fP at n;have l:=bQ 4 h rfl;have e:=bQ 5 h rfl;have c:=bL h;clear h;generalize Pu.dN s i=b at *;obtain⟨m,r⟩:∃m:Int,b=m+97:=⟨b-97,o_⟩;subst r;have F:IntKind.u8.wrap (m+97-97)=m:=by rw[(o_:m+97-97=m)];unfold IntKind.wrap;simp[IntKind.bits,IntKind.signed];omega
 have p:m+97-97=m:=o_;rw[p];have E:=yL (m+1);have u:=yL m;go_in;go_wp2_with fail;go_quiet (fail);have dn:=bd_ (Br_ w.heap.size w) nq;have a:=bL (c.o.below dn);have k:=bL (jZ (some g) dn);clear dn l e c d;generalize w.drewN nq=d at *;have e:=bQ 5 a.o rfl;have q:=bM a.o 5;have c:Hid (Db (d.setCell (a_ g 5) (I_ ((i:Int)+1))) g s (i+1) vn f modes down):=a.o.at (i+1);have l:=bL (k.o.trans (gs_ d g 5 (I_ ((i:Int)+1))));go_upto_region 3 with (fail);clear e q a k;generalize d.setCell (a_ g 5) (I_ ((i:Int)+1))=q at *;have v:=bQ 0 c.o rfl;have y:=bM c.o 0;by_cases a:modes<=m
 .have k:decide (modes<=m)=true:=dt_ a;have R:Hid (RS modes m=m+1):=by show _=_;unfold RS;rw[if_pos a]
  have e:=bL (c.o.mode (m+1));go_wp2;go_ret;exact⟨rfl,l.o.trans (gs_ _ g 0 _),by rw[R.o];exact e.o⟩
 .have k:decide (modes<=m)=false:=dn_ a;have R:Hid (RS modes m=modes):=by show _=_;unfold RS;rw[if_neg a]
  go_wp2;go_ret;exact⟨rfl,l.o,by rw[R.o];exact c.o⟩
structure Kn where
 mode:Int
 emit:Int
 act:Int
 md:Int
 root:Int
def qj(x:Kn):List V_:=[I_ x.mode,I_ x.emit,I_ x.act,I_ x.md,I_ x.root]
def Ih(ls:List Kn):List V_:=ls.flatMap qj
theorem RH(a b:List Kn):Ih (a++b)=Ih a++Ih b:=by simp[Ih]
theorem ad2(x:Kn):Ih [x]=qj x:=by simp[Ih]
theorem qx{ls:List Kn}{p j:Nat}{x:Kn}(a:ls[p]?=some x)(d:j<5):(Ih ls)[p*5+j]?=(qj x)[j]?:=by
 induction ls generalizing p with
 | nil=>simp at a
 | cons z r c=>
  show (qj z++Ih r)[_]?=_;have b:(qj z).length=5:=rfl;cases p with
  | zero=>rw[List.getElem?_cons_zero]at a;cases a;rw[Nat.zero_mul,Nat.zero_add,al_ o_]
  | succ p=>rw[cs_]at a;rw[ar_ o_,b,(o_:(p+1)*5+j-5=p*5+j)];exact c a
theorem Wy(x:Kn):∀u∈qj x,u.oneCell'=true:=by intro u a;simp[qj]at a;rcases a with rfl | rfl | rfl | rfl | rfl <;> rfl
theorem RO:(prog.info? 144).map (fun i=>(i.zero,i.size,i.bytes))=some (some (.agg (qj ⟨0,0,0,0,0⟩).toArray),5,40):=k_
structure LD(B g:Nat)(s:Y_)(j:Nat)(ns:List aF)(al:Option Addr)(cl:Nat)(ls:List Kn)(modes down:Int)(w:W_)(gx:Nat)(x:Kn)(W:W_):Prop where
 dr:∃vn,Dr B g s j ns vn (.slice al ls.length cl) modes down W
 be:Below B w W
 x:dh W gx 144 (qj x)
 row:W.ownsRow B 144 5 (.slice al ls.length cl) ls.length (Ih ls)
 ap:w.heap.size<=gx/\B<=w.heap.size/\some gx≠(Value.slice al ls.length cl).ownBlock
section
variable {B g:Nat} {s:Y_} {j j':Nat} {ns ns':List aF} {al:Option Addr} {cl:Nat} {ls:List Kn} {modes down modes' down':Int} {w:W_} {gx:Nat} {x x':Kn} {W W':W_} {vn:V_}
theorem LD.below(h:LD B g s j ns al cl ls modes down w gx x W)(a:B_ W W'):LD B g s j ns al cl ls modes down w gx x W':=by obtain⟨vn,dr⟩:=h.dr;exact⟨⟨vn,dr.below a⟩,h.be.trans (a.mono dr.lt),bO h.x a (bP h.x),bW h.row a dF,h.ap⟩
theorem LD.on(h:LD B g s j ns al cl ls modes down w gx x W)(a:Dk B W W')(b:Dr B g s j' ns' vn (.slice al ls.length cl) modes' down' W'):LD B g s j' ns' al cl ls modes' down' w gx x W':=
 ⟨⟨vn,b⟩,h.be.trans a.lo,a.fB h.x d_ d_,a.rows h.row d_ d_,h.ap⟩
theorem LD.fD(h:LD B g s j ns al cl ls modes down w gx x W)(a:Dr B g s j ns vn (.slice al ls.length cl) modes down W)(b:W.grownBy W' (some g))(c:Db W' g s j' vn (.slice al ls.length cl) modes' down'):LD B g s j' ns al cl ls modes' down' w gx x W':=h.on (a.dk b) (a.fD b c)
theorem LD.put(h:LD B g s j ns al cl ls modes down w gx x W)(k:Nat)(u:V_)(e:(qj x).set k u=qj x'):LD B g s j ns al cl ls modes down w gx x' (W.setCell (a_ gx k) u):=by obtain⟨vn,dr⟩:=h.dr;have a:=gs_ W gx k u;have b:=cK h.x k u;rw[e]at b;exact⟨⟨vn,bU dr.rb (dI dr.rb h.x d_) _ _,dr.up,dG dr.own h.x d_ a⟩,h.be.grown a (lt_ h.ap.2.1 (by have:=h.be.size;exact this)) (fun d c=>by cases c;exact lt_ h.ap.2.1 h.ap.1),b,Qc h.row h.ap.2.2 a,h.ap⟩
end
namespace Pu
def Iw(modes:Int)(x:aC):Int:=if x.act=1\/x.act=2 then RS (RS modes x.mode) x.md else RS modes x.mode
end Pu
theorem RJ(x:Kn):Instr.fill (fun i=>some (i*5,5)) ((Array.range (1*5)).map fun j=>((Value.agg (qj ⟨0,0,0,0,0⟩).toArray).cells)[j % (Value.agg (qj ⟨0,0,0,0,0⟩).toArray).cells.size]!) [(0,.agg (qj x).toArray)]=some (qj x).toArray:=by rw[sP];have:=vI (fun i=>some (i*5,5)) (qj x) ((List.range (1*5)).map fun j=>((Value.agg (qj ⟨0,0,0,0,0⟩).toArray).cells)[j % (Value.agg (qj ⟨0,0,0,0,0⟩).toArray).cells.size]!) rfl dF;exact this
def Z6(B g:Nat)(s:Y_)(i:Nat)(ns:List aF)(ls:List Kn)(modes down:Int)(w:W_)(e:Ending)(w':W_):Prop:=
 e=.returned (.tuple #[])/\Below B w w'/\∃vn al cl,Dr B g s i ns vn (.slice al ls.length cl) modes down w'/\w'.ownsRow B 144 5 (.slice al ls.length cl) ls.length (Ih ls)
theorem Wz(B g i k:Nat)(s:Y_)(ns:List aF)(vn:V_)(al:Option Addr)(cl:Nat)(ls:List Kn)(modes down:Int)(x:aC)(w:W_)(h:Dr B g s i ns vn (.slice al ls.length cl) modes down w)(E:w.ownsRow B 144 5 (.slice al ls.length cl) ls.length (Ih ls))(hs:s.size<=400)(hl:ns.length<=2*i)(hll:ls.length<=100)(_hmo:-100<=modes/\modes<=100)(hx:I6 s i k x)(hk:k=s.size\/Pu.dN s k=10) :
  Calls prog 78 #[p_ g] w (Z6 B g s (k+1) (ns++Pu.nodes x.re ns.length) (ls++[⟨x.mode,x.emit,x.act,x.md,((ns.length+x.re.size-1:Nat):Int)⟩]) (Iw modes x) (Pu.dX ls.length x.down down) w):=by
 cases hx with
 | @mk j _ re D z A md r p C a hA=>
 simp only;obtain⟨ip,hp,hp0,hp1,hp2⟩:=ip_ RO;have BL:=h.lt;have F:Hid (LD B g s i ns al cl ls modes down w w.heap.size ⟨0,0,0,0,0⟩ (w.alloc (c_ #[I_ 0,I_ 0,I_ 0,I_ 0,I_ 0] 144))):=by have c:=(Br_ w.heap.size w).alloc dF (c_ #[I_ 0,I_ 0,I_ 0,I_ 0,I_ 0] 144);exact⟨⟨vn,h.below c⟩,c.mono BL,hn_ _ _,bW E c dF,dF,BL,fun e=>by have:=(ol_ E _ e.symm).2;omega⟩
 have i1:i<s.size:=Pu.fK (s:=s) (i:=i) (by unfold fP at r;omega);have i2:i+1<s.size:=Pu.fK (s:=s) (i:=i+1) (by rw[p];decide);have js:j<s.size:=Pu.fK (s:=s) (i:=j) (by rw[a];decide);have ij:=C.leaves.2;have szP:=C.size;simp only[aH.sz,aH.un]at szP;have aL:=hA.le;have I:=r;unfold fP at I;obtain⟨c,f⟩:∃c,c=Pu.dN s i-97:=⟨_,rfl⟩;have y:=bL (fun T e (d:Db T g s i e (.slice al ls.length cl) modes down)=>JL g i s e (.slice al ls.length cl) modes down T d o_ r);rw[<-f]at y;rw[<-f];have L:=bL (fun T e (q:Int) (d:Dr B g s (i+2) ns e (.slice al ls.length cl) q down T)=>Le s hs (i+2) j re D C (.inl a) B g ns e al ls.length cl q down T d o_);have H:=bL hA;have K:=bL hk;have wi1:IntKind.i64.wrap ((i:Int)+1+1)=(i:Int)+2:=by rw[oD _ o_ o_];omega
 have wj1:=kZ j;have wj2:=yL ((j:Int)+1+1);clear h E r p C a hA hk f I;go_in;go_wp2_with fail;generalize w.alloc (c_ #[I_ 0,I_ 0,I_ 0,I_ 0,I_ 0] 144)=W0 at *;obtain⟨vn0,a⟩:=F.o.dr;generalize w.heap.size=gx at *;refine (y.o W0 vn0 a.rb).mono ?_;clear y;rintro e T ⟨rfl,d,f⟩;have p:=bL (F.o.fD a d f);clear a d f F;generalize I:RS modes c=r at *;have d:=bQ 0 p.o.x rfl;have a:=bM p.o.x 0;have f:=bL (p.o.put (x':=⟨c,0,0,0,0⟩) 0 (I_ c) rfl);go_upto_region 2 with (fail);clear d a p;generalize T.setCell (a_ gx 0) (I_ c)=W2 at *;obtain⟨Uw,a⟩:=f.o.dr;have d:W2.cell? (a_ g 5)=some (I_ ((i:Int)+1)):=bN (j:=5) a.rb rfl;have y:=bM a.rb 5;have p:Hid (LD B g s (i+2) ns al cl ls r down w gx ⟨c,0,0,0,0⟩ (W2.setCell (a_ g 5) (I_ ((i:Int)+2)))):=f.o.fD a (gs_ _ _ _ _) (a.rb.at (i+2));clear a;go_wp2_with fail;clear d y f;generalize W2.setCell (a_ g 5) (I_ ((i:Int)+2))=W3 at *;obtain⟨vn3,a⟩:=p.o.dr;refine (L.o W3 vn3 r a).mono ?_;clear L a;rintro e w4 ⟨rfl,d,vn4,a⟩;have f:=bL (p.o.on d a);clear d a p;generalize hns:ns++Pu.nodes re ns.length=p at *;generalize hro:((ns.length+re.size-1:Nat):Int)=q at *;have d:=bQ 4 f.o.x rfl;have a:=bM f.o.x 4;have C:=bL (f.o.put (x':=⟨c,0,0,0,q⟩) 4 (I_ q) rfl);go_upto_region 4 with (fail);clear d a f;generalize w4.setCell (a_ gx 4) (I_ q)=W5 at *;obtain⟨MN,a⟩:=C.o.dr;have d:=bQ 5 a.rb rfl;have y:=bM a.rb 5;have f:Hid (LD B g s (j+1) p al cl ls r (Pu.dX ls.length D down) w gx ⟨c,0,0,0,q⟩ (W5.setCell (a_ g 5) (I_ ((j:Int)+1)))):=C.o.fD a (gs_ _ _ _ _) (a.rb.at (j+1));clear a;go_upto_region 5 with (fail);clear d y C;generalize W5.setCell (a_ g 5) (I_ ((j:Int)+1))=W6 at *;obtain⟨vn6,a⟩:=f.o.dr;have C:oF (Pu.dN s (j+1)) z:=by
  cases H.o with
  | plain d _ _ _=>exact d
  | pop d _=>exact d
  | bH d _ _=>exact d
  | push d _ _=>exact d
 have j1s:j+1<s.size:=Pu.fK C.ne;have y:∀w,(Instr.index 9 (.string s) (I_ ((j:Int)+1))).run prog w=.ok (.int .u8 (Pu.dN s (j+1))) w:=by rw[mM j1s];exact fun w=>eB s ((j:Int)+1) (j+1) o_ j1s w
 have k0:(0:Int)<=j+1:=o_;have k1:(j:Int)+1<(s.size:Int):=o_;have F:=bQ 4 a.rb rfl;have d:W6.cell? (a_ g 5)=some (I_ ((j:Int)+1)):=bN (j:=5) a.rb rfl;clear a;generalize Pu.dN s (j+1)=pe at *;go_wp2_with fail;go_quiet (fail);have a:=bL (f.o.below (bd_ (Br_ W6.heap.size W6) nq));clear f F d y;generalize W6.drewN nq=W7 at *;go_upto_if 33 with (fail);go_cut [] from 4 (fun f=>LD B g s (j+1) p al cl ls r (Pu.dX ls.length D down) w gx ⟨c,z,0,0,q⟩ f)
 case first=>
  rcases C with ⟨rfl,rfl⟩ | ⟨rfl,rfl⟩
  .have y:=bN (j:=1) a.o.x rfl;have d:=bM a.o.x 1;have f:=bL (a.o.put (x':=⟨c,1,0,0,q⟩) 1 (I_ 1) rfl);go_wp2_with fail;go_meet;case rel=>exact f.o
  .go_wp2_with fail;go_meet;case rel=>exact a.o
 case rest=>
 have f:=bL hcut;clear hcut a C;obtain⟨vn8,a⟩:=f.o.dr;have d:wc.cell? (a_ g 5)=some (I_ ((j:Int)+1)):=bN (j:=5) a.rb rfl;have y:=bM a.rb 5;have C:Hid (LD B g s (j+2) p al cl ls r (Pu.dX ls.length D down) w gx ⟨c,z,0,0,q⟩ (wc.setCell (a_ g 5) (I_ ((j:Int)+1+1)))):=f.o.fD a (gs_ _ _ _ _) (a.rb.at (j+2));clear a;go_upto_region 8 with (fail);clear d y f;generalize wc.setCell (a_ g 5) (I_ ((j:Int)+1+1))=Y at *;obtain⟨vn9,a⟩:=C.o.dr;have F:=bQ 4 a.rb rfl;have d:Y.cell? (a_ g 5)=some (I_ ((j:Int)+1+1)):=bN (j:=5) a.rb rfl;clear a;go_cut [3,64] from 4 (fun _ a f=>∃tb,a=.bool tb/\LD B g s (j+2) p al cl ls r (Pu.dX ls.length D down) w gx ⟨c,z,0,0,q⟩ f/\tb=decide (j+2<s.size/\Pu.dN s (j+2)≠10))
 case first=>
  by_cases a:j+2<s.size;have d1:decide ((j:Int)+1+1<(s.size:Int))=true:=dt_ o_;have y:∀w,(Instr.index 9 (.string s) (I_ ((j:Int)+1+1))).run prog w=.ok (.int .u8 (Pu.dN s (j+2))) w:=by rw[mM a];exact fun w=>eB s ((j:Int)+1+1) (j+2) o_ a w
  have k0:(0:Int)<=j+1+1:=o_;have k1:(j:Int)+1+1<(s.size:Int):=o_;have R:Hid (decide (j+2<s.size/\Pu.dN s (j+2)≠10)=(Pu.dN s (j+2) != 10)):=by show _=_;rw[Bool.decide_and,dt_ a,Bool.true_and];by_cases e:Pu.dN s (j+2)=10 <;> simp[e]
  generalize anm:Pu.dN s (j+2)=pk at *;rotate_left;have d1:decide ((j:Int)+1+1<(s.size:Int))=false:=dn_ o_;have R:Hid (decide (j+2<s.size/\Pu.dN s (j+2)≠10)=false):=dn_ (fun h=>a h.1);rotate_left;all_goals
   go_quiet (fail);have n:=bL (C.o.below (bd_ (Br_ Y.heap.size Y) nq))
  .clear C F d y;generalize Y.drewN nq=f at *;go_wp2_with fail;go_meet;case rel=>exact⟨_,rfl,n.o,by first | exact R.o.symm | (rw[anm];exact R.o.symm)⟩
  .clear C F d;generalize Y.drewN nq=f at *;go_wp2_with fail;go_meet;case rel=>exact⟨_,rfl,n.o,R.o.symm⟩
 case rest=>
 obtain⟨tb,rfl,L,f⟩:=hcut;have n:=bL L;have J:=bL f;clear L f C F d;go_upto_if 64 with (fail);go_cut [] from 3 (fun f=>LD B g s k p al cl ls (if A=1\/A=2 then RS r md else r) (Pu.dX ls.length D down) w gx ⟨c,z,A,md,q⟩ f)
 case first=>
  have hA:=H.o;have l:=K.o;have G:=J.o;clear H K J;have b:∀pk,Pu.dN s (j+2)=pk->(pk=60\/pk=62\/pk=43)->tb=true/\j+2<s.size:=by intro pk d f;have a:j+2<s.size:=Pu.fK (s:=s) (i:=j+2) o_;exact⟨by rw[G,dt_ ⟨a,o_⟩],a⟩
  cases hA with
  | plain d f h3 C=>
   have e:tb=false:=by
    rw[G];refine dn_ (fun h=>?_);rcases l with e | e
    .omega
    .exact h.2 e
   subst e;clear b G l d f h3 C;go_wp2_with fail;go_meet;case rel=>exact n.o
  | pop d f=>?_
  | bH d f h3=>?_
  | push d f h3=>?_
  obtain⟨rfl,a⟩:=b 60 f (.inl rfl);rotate_left;obtain⟨rfl,a⟩:=b 62 f o_;rotate_left;obtain⟨rfl,a⟩:=b 43 f o_;rotate_left;all_goals
   clear b G l d;have y:∀w,(Instr.index 9 (.string s) (I_ ((j:Int)+1+1))).run prog w=.ok (.int .u8 (Pu.dN s (j+2))) w:=by rw[mM a];exact fun w=>eB s ((j:Int)+1+1) (j+2) o_ a w
  rw[show Pu.dN s (j+2)=60 from f]at y;rotate_left;rw[show Pu.dN s (j+2)=62 from f]at y;rotate_left;rw[show Pu.dN s (j+2)=43 from f]at y;rotate_left;all_goals
   have k0:(0:Int)<=j+1+1:=o_;have k1:(j:Int)+1+1<(s.size:Int):=o_;have wj3:=yL ((j:Int)+1+1+1);obtain⟨vn10,C⟩:=n.o.dr;have F:=bQ 4 C.rb rfl;have d:wc.cell? (a_ g 5)=some (I_ ((j:Int)+1+1)):=bN (j:=5) C.rb rfl;clear C f;go_wp2_with fail;go_quiet (fail);have C:=bL (n.o.below (bd_ (Br_ wc.heap.size wc) nq));clear n F d y;generalize wc.drewN nq=N at *;obtain⟨vn11,f⟩:=C.o.dr;have d:N.cell? (a_ g 5)=some (I_ ((j:Int)+1+1)):=bN (j:=5) f.rb rfl;have y:=bM f.rb 5;have u:Hid (LD B g s (j+3) p al cl ls r (Pu.dX ls.length D down) w gx ⟨c,z,0,0,q⟩ (N.setCell (a_ g 5) (I_ ((j:Int)+1+1+1)))):=C.o.fD f (gs_ _ _ _ _) (f.rb.at (j+3));clear f;go_upto_region 11 with (fail);clear d y C;generalize N.setCell (a_ g 5) (I_ ((j:Int)+1+1+1))=V at *;have x2:=bQ 2 u.o.x rfl;have xf2:=bM u.o.x 2
  .have d:=bL (u.o.put (x':=⟨c,z,3,0,q⟩) 2 (I_ 3) rfl);go_wp2_with fail;go_meet;case rel=>exact d.o
  focus
   have d:=bL (u.o.put (x':=⟨c,z,1,0,q⟩) 2 (I_ 1) rfl);go_upto_region 15 with (fail);clear x2 xf2 u;generalize V.setCell (a_ gx 2) (I_ 1)=X at *
  rotate_left;focus
   have d:=bL (u.o.put (x':=⟨c,z,2,0,q⟩) 2 (I_ 2) rfl);go_upto_region 18 with (fail);clear x2 xf2 u;generalize V.setCell (a_ gx 2) (I_ 2)=X at *
  rotate_left;all_goals
   obtain⟨an8,f⟩:=d.o.dr;have y:=bL (JL g (j+3) s an8 (.slice al ls.length cl) r _ X f.rb o_ h3);have C:Hid (f=f):=rfl;generalize hmd:Pu.dN s (j+3)-97=H at *;go_wp2_with fail;refine y.o.mono ?_;clear y C;rintro e w14 ⟨rfl,C,y⟩;have F:=bL (d.o.fD f C y);clear f C y d;have x3:=bQ 3 F.o.x rfl;have xf3:=bM F.o.x 3
  .have d:=bL (F.o.put (x':=⟨c,z,1,H,q⟩) 3 (I_ H) rfl);go_wp2_with fail;go_meet;case rel=>rw[if_pos d_];exact d.o
  .have d:=bL (F.o.put (x':=⟨c,z,2,H,q⟩) 3 (I_ H) rfl);go_wp2_with fail;go_meet;case rel=>rw[if_pos d_];exact d.o
 case rest=>
 have C:=bL hcut;clear hcut n J;obtain⟨vn20,f⟩:=C.o.dr;have wk:=kZ k;have d:=bQ 5 f.rb rfl;have y:=bM f.rb 5;have O:Hid (LD B g s (k+1) p al cl ls (if A=1\/A=2 then RS r md else r) (Pu.dX ls.length D down) w gx ⟨c,z,A,md,q⟩ (wc.setCell (a_ g 5) (I_ ((k:Int)+1)))):=C.o.fD f (gs_ _ _ _ _) (f.rb.at (k+1));have K:Hid (Iw modes ⟨c,z,A,md,re,D⟩=if A=1\/A=2 then RS r md else r):=by show _=_;unfold Iw;simp only;rw[I]
 clear f I;go_upto_region 20 with (fail);rw[K.o];clear K;clear d y C;generalize wc.setCell (a_ g 5) (I_ ((k:Int)+1))=d at *;generalize (if A=1\/A=2 then RS r md else r)=mm at *;generalize hy:(⟨c,z,A,md,q⟩:Kn)=y at *;have K:=((Br_ d.heap.size d).alloc dF (c_ (qj y).toArray 144)).drew;have f:=bL (O.o.below K);obtain⟨Z,L⟩:=f.o.dr;have I:B<=(d.alloc (c_ (qj y).toArray 144)).drew.heap.size:=L.lt;have S1:d.drew.rangeAt gx 0 (qj y):=eQ (W:=d.drew) O.o.x;have S2:(d.alloc (c_ (qj y).toArray 144)).drew.rangeAt gx 0 (qj y):=eQ f.o.x;obtain⟨vn21,C⟩:=O.o.dr;have rl:=bP C.rb;have ne1:g≠d.heap.size:=o_;have uC:d.heap.size≠g:=o_;have c2:=bQ 2 C.rb rfl;have BLw:=BL;clear K C;refine wd_ (S:=fun C=>C.rangeAt gx 0 (qj y)) k_ S1 (fun dK=>?_);refine cB 0 ?_;refine cB 1 ?_;refine cB 2 ?_;refine cB 3 ?_;refine wpAnyH_take (i:=5) (v:=(.agg (qj y).toArray)) rfl k_ k_ k_ (fun _ _ _ h=>h) (yieldsIf_load_mid r_ 144 (.tmp 2) rfl gx 0 rfl (qj y) _ (fun _ C=>C) underlying144 rfl k_) y_ ?_
 try simp only[oQ,Act.put]
 refine yz 4 6 (fun K l=>?_) (fun K l=>?_);focus
  go_simp;refine l.out _ _ dK (fun gG=>?_);clear l K
  try simp only[oQ,Act.put]
  refine fF 6 (fun K l=>?_)
 rotate_left;have c2':=bN (j:=2) L.rb rfl;rotate_left;all_goals
  refine fG 140 144 0 (.tmp 112) (.agg (qj y).toArray) rfl rfl (qj y).toArray ip _ 5 underlying140 hp hp0 hp1 o_ o_ (RJ y) ?_
 rotate_left;focus
  refine l.out _ _ S2 (fun gG=>?_);clear l K
  try simp only[oQ,Act.put]
  refine fF 4 (fun K l=>?_);go_simp
 all_goals
  refine l.out _ _ S2 (fun lT=>?_);clear l K
  try simp only[oQ,Act.put]
  refine fF 7 (fun K l=>?_);refine sa_ _ r_ _ _ _ r_ B 144 ip _ 5 40 underlying140 hp hp0 hp1 hp2 r_ o_ (.slice al ls.length cl) ls.length (Ih ls) r_ f.o.row (a_ d.heap.size 0) 1 1 (qj y) r_ r_ (World.news_of_block (cs:=(qj y).toArray) (t:=144) (fr:=(0,0)) (hn_ _ _)) (Wy y) o_ (by unfold maxLen;omega) o_ I (d.heap.size+1) i_ ?_;intro g2 eZ w2 di U C Q;clear C Q;have Jf:Below B w w2:=f.o.be.grown U I (fun k' e'=>(ol_ f.o.row k' e').1);have Q:Db w2 g s (k+1) Z (.slice al ls.length cl) _ _:=dZ f.o.row L.rb d_ U;have on2:=fU L.own f.o.row d_ U;have Zi:=bR f.o.x U f.o.ap.2.2;refine l.out _ _ (eQ Zi) (fun kT=>?_);have k5:=bQ 2 Q rfl;have Oh:=bM Q 2;clear l K
  try simp only[oQ,Act.put]
  refine cB 8 ?_;refine cB 9 ?_;refine fF 10 (fun K l=>?_);go_simp;have C:=gs_ w2 g 2 (s_ g2 (ls.length+1) eZ);have xb3:=bR Zi C (fun e=>dI Zi Q d_ (oi_ e));refine l.out _ _ (eQ xb3) (fun nX=>?_);clear l K;refine wpAnyH_done k_ ?_ _;have FIN:Hid (Z6 B g s (k+1) p (ls++[y]) mm (Pu.dX ls.length D down) w (.returned (.tuple #[])) (w2.setCell (a_ g 2) (s_ g2 (ls.length+1) eZ))):=by
   refine⟨rfl,Jf.grown C (lt_ I U.size) (fun k' e'=>by cases e';exact L.up),Z,some (a_ g2 0),eZ,⟨?_,L.up,dG on2 Q d_ C⟩,?_⟩
   .rw [la_];exact Q.lines _
   .have:=dG di Q d_ C;rw[RH,ad2,la_];exact this
  clear dK gG lT kT nX Q Zi xb3 k5 Oh di U C f Jf on2 L;go_wp2;go_end0;exact FIN.o
structure DR where
 ns:List aF
 ls:List Kn
 modes:Int
 down:Int
namespace Pu
def KC(r:DR)(x:aC):DR:=⟨r.ns++nodes x.re r.ns.length,r.ls++[⟨x.mode,x.emit,x.act,x.md,((r.ns.length+x.re.size-1:Nat):Int)⟩],Iw r.modes x,dX r.ls.length x.down r.down⟩
def fQ(ls:List aC):DR:=ls.foldl KC ⟨[],[],0,-1⟩
theorem vC(ls:List aC)(x:aC):fQ (ls++[x])=KC (fQ ls) x:=by simp[fQ]
theorem Lj(ls:List aC):∀r:DR,(ls.foldl KC r).ls.length=r.ls.length+ls.length:=by
 induction ls with
 | nil=>intro r;rfl
 | cons x t a=>intro r;rw[List.foldl_cons,a];simp[KC];omega
theorem uq(ls:List aC):(fQ ls).ls.length=ls.length:=by unfold fQ;rw[Lj];simp
theorem I6.size{s:Y_}{i k:Nat}{x:aC}(h:I6 s i k x):x.re.size+2*i<=2*k:=by
 cases h with
 | mk e f c l d=>have a:=c.size;have b:=d.le;simp only[aH.sz,aH.un]at a;simp only;omega
theorem ad3{m:Int}{x:aC}(a:Np x)(h:0<=m/\m<=4):0<=Iw m x/\Iw m x<=4:=by unfold Np at a;unfold Iw RS;split <;> split <;> (try split) <;> omega
end Pu
structure DI(s:Y_)(w:W_)(g k:Nat)(ls all:List aC)(W:W_):Prop where
 dr:∃vn al cl,Dr w.heap.size g s k (fQ ls).ns vn (.slice al (fQ ls).ls.length cl) (fQ ls).modes (fQ ls).down W/\W.ownsRow w.heap.size 144 5 (.slice al (fQ ls).ls.length cl) (fQ ls).ls.length (Ih (fQ ls).ls)
 be:B_ w W
 on:(uk s k ls all/\k<s.size)\/(s.size<k/\ls=all)
 ns:(fQ ls).ns.length<=2*k
 md:0<=(fQ ls).modes/\(fQ ls).modes<=4
 n:ls.length<=16
 le:k<=s.size+1
def aiL(s:Y_)(a:List aC)(w:W_)(e:Ending)(w':W_):Prop:=
 ∃g vn al cl,e=.returned (p_ g)/\B_ w w'/\Dr w.heap.size g s (s.size+1) (fQ a).ns vn (.slice al (fQ a).ls.length cl) (fQ a).modes (fQ a).down w'/\w'.ownsRow w.heap.size 144 5 (.slice al (fQ a).ls.length cl) (fQ a).ls.length (Ih (fQ a).ls)
theorem Pu.uk.pos{s:Y_}{i:Nat}{ls a:List aC}(h:uk s i ls a):i<s.size:=by
 cases h with
 | done b=>have:=b.le;omega
 | more b=>have:=b.le;omega
theorem WJ(s:Y_)(H:s.size<=400)(a:List aC)(u:uk s 0 [] a)(w:W_) :
  Calls prog 53 #[.string s] w (aiL s a w):=by
 have G:=u.pos;have b:Hid (DI s w w.heap.size 0 [] a (w.alloc (c_ #[I_ 0,n_,n_,I_ (-1),.string s,I_ 0] 142))):=
  ⟨⟨n_,none,0,⟨hn_ _ _,dF,iR _ _ _ _⟩,iR _ _ _ _⟩,kM _,.inl ⟨u,G⟩,zl_ _,d_,i_,zl_ _⟩
 go_in;go_wp2_with fail;go_loopg [7] (s.size+1) (fun gk _ c=>∃k ls,gk=s.size+1-k/\DI s w w.heap.size k ls a c);exact⟨0,[],rfl,b.o⟩;clear b;obtain⟨k,ls,rfl,d⟩:=hrel;obtain⟨vn,al,cl,q,t⟩:=d.dr;have C:=bQ 5 q.rb rfl;rcases d.on with ⟨y,E⟩ | ⟨E,rfl⟩
 .have D:=oL k s.size;have A:=uq ls;have e:Hid (∃(x:aC) (j:Nat),I6 s k j x/\(j=s.size\/Pu.dN s j=10)/\ls.length+1<=16/\((uk s (j+1) (ls++[x]) a/\j+1<s.size)\/(s.size<j+1/\ls++[x]=a))):=by
   have n:=d.n;have f:=u.Ao;cases y with
   | done b=>exact⟨_,_,b,.inl rfl,by have:=f.2.2;simpa using this,.inr ⟨ls_ _,rfl⟩⟩
   | more b p i c=>exact⟨_,_,b,.inr p,o_,.inl ⟨c,c.pos⟩⟩
  obtain⟨x,j,l,z,F,n⟩:=e.o;clear e;have v:=bL (fun W (h:Dr w.heap.size w.heap.size s k (fQ ls).ns vn (.slice al (fQ ls).ls.length cl) (fQ ls).modes (fQ ls).down W) (p:W.ownsRow w.heap.size 144 5 (.slice al (fQ ls).ls.length cl) (fQ ls).ls.length (Ih (fQ ls).ls))=>Wz w.heap.size w.heap.size k j s (fQ ls).ns vn al cl (fQ ls).ls (fQ ls).modes (fQ ls).down x W h p H d.ns o_ (by have:=d.md;omega) l z);have e:=bL (And.intro q t);have f:Hid (∀i,Below w.heap.size wr i->(∃vn al cl,Dr w.heap.size w.heap.size s (j+1) (fQ (ls++[x])).ns vn (.slice al (fQ (ls++[x])).ls.length cl) (fQ (ls++[x])).modes (fQ (ls++[x])).down i/\i.ownsRow w.heap.size 144 5 (.slice al (fQ (ls++[x])).ls.length cl) (fQ (ls++[x])).ls.length (Ih (fQ (ls++[x])).ls))->DI s w w.heap.size (j+1) (ls++[x]) a i):=by
   intro i r p;have b:=l.le;have c:=l.size;refine⟨p,d.be.trans r,n,?_,?_,by simpa using F,o_⟩
   .rw [vC];have:=d.ns;simp only[KC,la_,Pu.bT];omega
   .rw [vC];exact ad3 l.bd d.md
  have I:=l.le;clear d q t y n l z A;go_wp2_with fail;refine (v.o _ e.o.1 e.o.2).mono ?_;clear v e;rintro e i ⟨rfl,r,v,n,l,b,c⟩;have p:Hid (DI s w w.heap.size (j+1) (ls++[x]) a i):=f.o i r ⟨v,n,l,by rw[vC];exact b,by rw[vC];exact c⟩;clear f b c r C;go_wp2;go_roundg (s.size+1-(j+1));exact⟨j+1,ls++[x],rfl,p.o⟩;omega
 .have D:=nI k s.size;have b:=bL d;have e:=bL (And.intro q t);have c:k=s.size+1:=by have:=d.le;omega
  clear d q t;go_wp2;go_ret;subst c;exact⟨_,vn,al,cl,rfl,b.o.be,e.o.1,e.o.2⟩
def rY(n:Nat)(f:Nat->Bool):List V_:=(List.range n).map (fun i=>.bool (f i))
theorem iy{n:Nat}(f:Nat->Bool){i:Nat}(h:i<n):(rY n f)[i]?=some (.bool (f i)):=by simp[rY,h]
theorem pX{n:Nat}{f g:Nat->Bool}(h:∀i,i<n->f i=g i):rY n f=rY n g:=by unfold rY;refine List.map_congr_left (fun i a=>?_);rw[h i (List.mem_range.1 a)]
def uW(f:Nat->Bool)(k:Nat)(b:Bool):Nat->Bool:=fun i=>if i=k then b else f i
theorem Eu(n:Nat)(f:Nat->Bool)(k:Nat)(b:Bool):(rY n f).set k (.bool b)=rY n (uW f k b):=by
 refine List.ext_getElem? (fun i=>?_);rw[List.getElem?_set];unfold rY uW;by_cases a:i<n
 .by_cases c:k=i
  .subst c;simp[a]
  .rw [if_neg c];simp[a,Ne.symm c]
 .simp [a];intro _;omega
theorem aat(n:Nat):rY n (fun _=>false)=List.replicate n (.bool false):=by unfold rY;rw[List.map_const',List.length_range]
theorem Wo:(prog.info? 4).map (fun i=>(i.zero,i.size,i.bytes))=some (some (.bool false),1,1):=k_
def Bl(W:W_)(g n:Nat)(f:Nat->Bool):Prop:=dh W g 4 (rY n f)
theorem XL(n:Nat):madeCells (Value.bool false).cells (n*1)=(rY n (fun _=>false)).toArray:=by rw[aat];unfold madeCells;refine Array.ext i_ (fun i a b=>?_);simp[Value.cells,Nat.mod_one]
theorem qX(n:Nat)(e:n<=100000)(w:W_):(Instr.makeSlice 153 (I_ n) (I_ n)).run prog w=.ok (s_ w.heap.size n n) (w.alloc (c_ (rY n (fun _=>false)).toArray 4)):=by obtain⟨i,a,b,c,d⟩:=ip_ Wo;have:=run_make (P:=prog) w 153 4 i (.bool false) underlying153 a b .i64 .i64 (n:Int) (n:Int) o_ (Int.le_refl _) (by rw[d];omega) o_;rw[this,c,tn_,XL]
def UH(n:Nat)(f:Nat->Bool)(w:W_)(e:Ending)(w':W_):Prop:=
 ∃g,e=.returned (s_ g n n)/\B_ w w'/\w.heap.size<=g/\Bl w' g n f
theorem vF(n y z:Nat)(c d:Nat->Bool)(w:W_)(r:Bl w y n c)(t:Bl w z n d)(E:n<=100000) :
  Calls prog 107 #[s_ y n n,s_ z n n] w (UH n (fun i=>c i || d i) w):=by
 have a:=qX n E;have b:Hid (B_ w (w.alloc (c_ (rY n (fun _=>false)).toArray 4))):=kM _;have e:Hid (Bl (w.alloc (c_ (rY n (fun _=>false)).toArray 4)) w.heap.size n (fun _=>false)):=hn_ _ _;have A:=bL r;have C:=bL t;have F:=bP r;have G:=bP t;clear r t;go_in;go_wp2_with fail;go_loopg [6,10] n (fun gk l _ f=>∃k:Nat,k<=n/\gk=n-k/\l=I_ k/\B_ w f/\Bl f w.heap.size n (fun i=>decide (i<k) && (c i || d i)));exact⟨0,zl_ _,rfl,rfl,b.o,by have:=e.o;unfold Bl at *;rw[pX (g:=fun _=>false) (fun i _=>i_)];exact this⟩;clear b e a;obtain⟨k,L,rfl,rfl,e,f⟩:=hrel;by_cases u:k<n
 .have D:=oL k n;have N:=kZ k;have aS:=jJ k;have K:(k:Int)<n:=o_;have v:=bN (bO A.o e F) (iy c u);have H:=bN (bO C.o e G) (iy d u);have I:=bN f (iy _ u);have J:=bM f k;have l:=bL e;have p:=bL f;clear e f;have a:Hid (∀b,b=(c k || d k)->Bl (wr.setCell (a_ w.heap.size k) (.bool b)) w.heap.size n (fun i=>decide (i<k+1) && (c i || d i))):=by
   intro b e;have:=cK p.o k (.bool b);rw[Eu]at this;unfold Bl;rw[pX (g:=uW (fun i=>decide (i<k) && (c i || d i)) k b)]
   .exact this
   .intro i _;unfold uW;by_cases q:i=k
    .subst q;simp[e]
    .rw [if_neg q];have:decide (i<k+1)=decide (i<k):=by simp only[decide_eq_decide];omega
     rw[this]
  have q:Hid (∀b,B_ w (wr.setCell (a_ w.heap.size k) (.bool b))):=fun b=>l.o.setCell dF _;clear l p;cases e1:c k with
  | true=>?_
  | false=>?_
  rw[e1]at v;have b:=a.o true (by rw[e1];rfl);rotate_left;focus
   rw[e1]at v;have b:=a.o (d k) (by rw[e1];rfl)
  all_goals
   have l:=bL b;clear b a e1;go_wp2;go_roundg (n-(k+1));exact⟨k+1,o_,rfl,by go_num,q.o _,l.o⟩;omega
 .have D:=nI k n;have a:k=n:=o_;subst a;have l:=bL e;have p:Hid (Bl wr w.heap.size k (fun i=>c i || d i)):=by unfold Bl Hid;rw[pX (g:=fun i=>decide (i<k) && (c i || d i)) (fun i q=>by simp[q])];exact f
  clear e f;go_wp2;go_ret;exact⟨_,rfl,l.o,dF,p.o⟩
namespace Pu
def sZ(f:Nat->Bool):Nat->Nat
 | 0=>0
 | n+1=>sZ f n+(if f n=true then 1 else 0)
theorem U7(f:Nat->Bool):∀n,sZ f n<=n
 | 0=>dF
 | n+1=>by have:=U7 f n;unfold sZ;split <;> omega
theorem Jp(f:Nat->Bool):∀n,sZ f n=0↔∀i,i<n->f i=false
 | 0=>by simp[sZ]
 | n+1=>by
  have a:=Jp f n;unfold sZ;constructor
  .intro h i b;by_cases e:i=n
   .subst e;cases hf:f i with
    | true=>rw[hf]at h;simp at h
    | false=>rfl
   .exact a.1 o_ i o_
  .intro h;have:=h n o_;rw[this,a.2 (fun i b=>h i o_)];rfl
end Pu
theorem Ww(n i:Nat)(f:Nat->Bool)(w:W_)(d:Bl w i n f)(t:n<=100000) :
  Calls prog 110 #[s_ i n n] w (mY (I_ (sZ f n:Int)) w):=by
 have l:=bL d;have r:=bP d;clear d;go_in;go_wp2_with fail;go_loopg [3,4,5] n (fun gk b a _ c=>∃k:Nat,k<=n/\gk=n-k/\b=I_ (sZ f k:Int)/\a=I_ k/\B_ w c);exact⟨0,zl_ _,rfl,rfl,rfl,Br_ _ _⟩;obtain⟨k,v,rfl,rfl,rfl,a⟩:=hrel;have cl:=U7 f k;by_cases q:k<n
 .have p:=oL k n;have y:=kZ k;have wc:=yL ((sZ f k:Int)+1);have aS:=jJ k;have u:(k:Int)<n:=o_;have e:=bN (bO l.o a r) (iy f q);have b:=bL a;clear a;cases e1:f k with
  | true=>
   rw[e1]at e;have c:Hid (sZ f (k+1)=sZ f k+1):=by show _=_;rw[sZ,if_pos e1]
   clear e1;go_wp2;go_roundg (n-(k+1));exact⟨k+1,o_,rfl,by rw[c.o];go_num,by go_num,b.o⟩;omega
  | false=>
   rw[e1]at e;have c:Hid (sZ f (k+1)=sZ f k):=by show _=_;rw[sZ,e1];rfl
   clear e1;go_wp2;go_roundg (n-(k+1));exact⟨k+1,o_,rfl,by rw[c.o],by go_num,b.o⟩;omega
 .have p:=nI k n;have c:k=n:=o_;subst c;have b:=bL a;clear a;go_wp2;go_ret;exact⟨rfl,b.o⟩
namespace Pu
def Wj(n:Nat)(f g:Nat->Bool):Bool:=decide (∀i,i<n->f i=g i)
end Pu
theorem Wi(n t u:Nat)(a b:Nat->Bool)(w:W_)(f:Bl w t n a)(l:Bl w u n b)(H:n<=100000) :
  Calls prog 136 #[s_ t n n,s_ u n n] w (mY (.bool (Pu.Wj n a b)) w):=by
 have v:=bL f;have y:=bL l;have D:=bP f;have E:=bP l;clear f l;go_in;go_wp2_with fail;go_loopg [5,6] n (fun gk c _ d=>∃k:Nat,k<=n/\gk=n-k/\c=I_ k/\B_ w d/\∀i,i<k->a i=b i);exact⟨0,zl_ _,rfl,rfl,Br_ _ _,fun i p=>absurd p (Nat.not_lt_zero _)⟩;obtain⟨k,J,rfl,rfl,c,e⟩:=hrel;have d:=bL e;have r:=bL c;clear e;by_cases q:k<n
 .have A:=oL k n;have K:=kZ k;have aS:=jJ k;have I:(k:Int)<n:=o_;have F:=bN (bO v.o c D) (iy a q);have G:=bN (bO y.o c E) (iy b q);clear c;by_cases e:a k=b k;have C:(a k == b k)=true:=by simp[e]
  have z:Hid (∀i,i<k+1->a i=b i):=fun i p=>by
   by_cases p:i=k
   .rw [p];exact e
   .exact d.o i o_
  rotate_left;have C:(a k == b k)=false:=by simp[e]
  have R:Hid (Pu.Wj n a b=false):=dn_ (fun h=>e (h k q));rotate_left;all_goals
   clear e d;generalize a k=e at *;generalize b k=p at *;go_wp2_with fail;go_quiet (fail);have dn:=bL (bd_ r.o nq);go_wp2
  .go_roundg (n-(k+1));exact⟨k+1,o_,rfl,by go_num,dn.o,z.o⟩;omega
  .go_ret;exact⟨by rw[R.o];rfl,dn.o⟩
 .have A:=nI k n;have e:k=n:=o_;subst e;have R:Hid (Pu.Wj k a b=true):=dt_ d.o;clear d c;go_wp2;go_ret;exact⟨by rw[R.o];rfl,r.o⟩
def nV(n:Nat)(a:List Nat):List V_:=a.map (fun g=>s_ g n n)
theorem xP(n:Nat)(a:List Nat):(nV n a).length=a.length:=by simp[nV]
theorem fH{n:Nat}{a:List Nat}{i g:Nat}(h:a[i]?=some g):(nV n a)[i]?=some (s_ g n n):=by simp[nV,h]
theorem uy(n:Nat)(a b:List Nat):nV n (a++b)=nV n a++nV n b:=by simp[nV]
structure Bls(B:Nat)(W:W_)(v:V_)(n:Nat)(gs:List Nat)(fs:List (Nat->Bool)):Prop where
 own:W.ownsRow B 153 1 v gs.length (nV n gs)
 len:gs.length=fs.length
 row:∀(i g:Nat) (f:Nat->Bool),gs[i]?=some g->fs[i]?=some f->Bl W g n f
theorem Bls.below{B:Nat}{W W':W_}{v:V_}{n:Nat}{b:List Nat}{a:List (Nat->Bool)}(h:Bls B W v n b a)(e:B_ W W'):Bls B W' v n b a:=
 ⟨bW h.own e dF,h.len,fun i g f c d=>bO (h.row i g f c d) e (bP (h.row i g f c d))⟩
namespace Pu
def IL(n:Nat)(s:Nat->Bool):List (Nat->Bool)->Nat->Int
 | [],_=>-1
 | f::r,k=>if Wj n f s=true then (k:Int) else IL n s r (k+1)
end Pu
theorem Yk(B n q:Nat)(v:V_)(y:List Nat)(E:Nat->Bool)(a:List (Nat->Bool))(s:Nat->Bool)(w:W_)(l:Bls B w v n y (E::a))(z:Bl w q n s)(J:n<=100000)(K:a.length<=100000) :
  Calls prog 111 #[v,s_ q n n] w (mY (I_ (IL n s a 1)) w):=by
 have len:=l.len;rw[lc_]at len;obtain⟨F,C,rfl,G,H⟩:=dL l.own o_;rw[len];have A:=bL l;have t:=bL z;clear l z;go_in;go_wp2_with fail;go_loopg [5,6,7] a.length (fun gk c _ _ d=>∃k:Nat,k<=a.length/\gk=a.length-k/\c=I_ ((k:Int)+1)/\B_ w d/\IL n s (a.drop k) (k+1)=IL n s a 1);exact⟨0,zl_ _,rfl,rfl,Br_ _ _,rfl⟩;obtain⟨k,N,rfl,rfl,c,d⟩:=hrel;have i:=bL d;have p:=bL c;clear d;by_cases I:k<a.length
 .have D:decide ((k:Int)+1<(a.length:Int)+1)=true:=dt_ o_;have Q:=yL ((k:Int)+1+1);have aS:(0:Int)<=k+1:=o_;have L:(k:Int)+1<(a.length:Int)+1:=o_;obtain⟨gk,d⟩:∃g,y[k+1]?=some g:=⟨_,gg_ o_⟩;obtain⟨f,r⟩:=rG a k I;have e:=A.o.below c;have aO:wr.cell? (a_ F (k+1))=some (s_ gk n n):=bV e.own (fH d);have O:((k:Int)+1).toNat=k+1:=o_;have u:=bL (Wi n gk q f s wr (e.row (k+1) gk f d (by rw[cs_];exact r)) (bO t.o c (bP t.o)) J);have b:Hid (IL n s a 1=if Pu.Wj n f s=true then ((k+1:Nat):Int) else IL n s (a.drop (k+1)) (k+1+1)):=by show _=_;rw[<-i.o];rw[show a.drop k=f::a.drop (k+1) by rw[List.drop_eq_getElem?_toList_append,r];rfl];rfl
  clear e c i d r;go_wp2_with fail;refine u.o.mono ?_;clear u;rintro e u ⟨rfl,d⟩;have r:=bL (p.o.trans (d.mono p.o.size));clear d;cases hq:Pu.Wj n f s with
  | true=>rw[hq]at b;have R:Hid (IL n s a 1=(k:Int)+1):=b.o;clear b;go_wp2;go_ret;exact⟨by rw[R.o];rfl,r.o⟩
  | false=>
   rw[hq]at b;have R:Hid (IL n s (a.drop (k+1)) (k+1+1)=IL n s a 1):=b.o.symm;clear b;go_wp2;go_roundg (a.length-(k+1));exact⟨k+1,o_,rfl,by go_num,r.o,R.o⟩;omega
 .have D:decide ((k:Int)+1<(a.length:Int)+1)=false:=dn_ o_;have d:k=a.length:=o_;have R:Hid (IL n s a 1=-1):=by show _=_;rw[<-i.o,d,List.drop_length];rfl
  clear i c;go_wp2;go_ret;exact⟨by rw[R.o];rfl,p.o⟩
end Go.Proofs.YtmccnmgaoppogabGreat
