import Derived.Test.YtmccnmgaoppogabGreatuJA
namespace Go.Proofs.YtmccnmgaoppogabGreat
open Pu
set_option linter.all false
open Go.Proofs.Tryz Tryz
set_option maxRecDepth 100000
set_option maxHeartbeats 8000000
open Go.RowKit
variable {W w:W_} {B cap g gw n size t:Nat} {xs:List V_} {v vc:V_} {code:List ed}
theorem TS(l:List Nat)(b:Nat)(w:W_)(C:l.length=256)(c:b<256) :
  Calls prog 146 #[.agg (bZ l).toArray,I_ b] w (mY (I_ (jD l b 256:Nat)) w):=by
 have d:Hid (dh (w.alloc (c_ (bZ l).toArray 161)) w.heap.size 161 (bZ l)):=hn_ _ _;have a:Hid (B_ w (w.alloc (c_ (bZ l).toArray 161))):=kM _;have z:=bL C;clear C;go_in;go_wp2_with fail;go_loopg [5] (256-b) (fun gk i e=>∃(h f:Nat),h<256/\gk=256-h/\i=I_ h/\B_ w e/\dh e w.heap.size 161 (bZ l)/\l.getD h 0=l.getD b 0/\256-h<=f/\jD l h f=jD l b 256);exact⟨b,256,c,rfl,rfl,a.o,d.o,rfl,o_,rfl⟩;clear a d;obtain⟨h,f,A,rfl,rfl,d,j,e,O,a⟩:=hrel;obtain⟨i,rfl⟩:∃i,f=i+1:=⟨f-1,o_⟩;have r:Hid ((if h+1<256/\l.getD (h+1) 0=l.getD h 0 then jD l (h+1) i else h)=jD l b 256):=a;have y:=bL d;have x:=bL j;have s:=bL e;have S:=kZ h;clear a d e;by_cases u:h+1<256
 .have F:decide ((h:Int)+1<256)=true:=dt_ o_;have G:(h:Int)+1<256:=o_;have I:(0:Int)<=h+1:=o_;have J:=jJ b;have K:(b:Int)<256:=o_;obtain⟨p,a⟩:∃p,l[h+1]?=some p:=⟨_,gg_ (by rw[z.o];exact u)⟩;obtain⟨q,e⟩:∃q,l[b]?=some q:=⟨_,gg_ (by rw[z.o];exact c)⟩;have T:wr.cell? (a_ w.heap.size (h+1))=some (I_ p):=bN j (iQ a);have U:wr.cell? (a_ w.heap.size b)=some (I_ q):=bN j (iQ e);have d:Hid (l.getD (h+1) 0=p/\l.getD h 0=q):=by refine⟨by rw[gd_,a];rfl,?_⟩;rw[s.o,gd_,e];rfl
  have Q:((h:Int)+1).toNat=h+1:=o_;clear j a e;by_cases e:p=q;have E:Hid (jD l (h+1) i=jD l b 256):=by have:=r.o;rw[if_pos ⟨u,by rw[d.o.1,d.o.2];exact e⟩]at this;exact this
  have D:Hid (l.getD (h+1) 0=l.getD b 0):=by show _=_;rw[<-s.o,d.o.1,d.o.2];exact e
  subst e;rotate_left;have R:Hid (jD l b 256=h):=by have:=r.o;rw[if_neg (fun a=>e (by rw[<-d.o.1,<-d.o.2];exact a.2))]at this;exact this.symm
  have L:((p:Int) == (q:Int))=false:=by simp;omega
  have H:¬(p:Int)=q:=o_;have N:decide ((p:Int)=q)=false:=dn_ H;rotate_left;all_goals
   clear r d s;go_wp2_with fail;go_quiet (fail);have dn:=bL (bd_ y.o nq)
  .have a:Hid (dh (wr.drewN nq) w.heap.size 161 (bZ l)):=x.o;go_wp2;go_roundg (256-(h+1));exact⟨h+1,i,u,rfl,by go_num,dn.o,a.o,D.o,o_,E.o⟩;omega
  .go_wp2;go_ret;exact⟨by rw[R.o];rfl,dn.o⟩
 .have F:decide ((h:Int)+1<256)=false:=dn_ o_;have R:Hid (jD l b 256=h):=by have:=r.o;rw[if_neg (fun a=>u a.1)]at this;exact this.symm
  clear r s j;go_wp2_with fail;go_quiet (fail);have dn:=bL (bd_ y.o nq);go_wp2;go_ret;exact⟨by rw[R.o];rfl,dn.o⟩
theorem JD:(prog.info? 50).map (fun i=>(i.zero,i.size,i.bytes))=some (some (.agg #[I_ 0,I_ 0,I_ 0,I_ 0]),4,32):=k_
theorem Bn{b:Array Oper}{rest:List Oper}{o:Oper}{a:Act}{Q:Exit->Act->W_->Prop}(f:o.guard=none)(s x:Operand)
  (D:o.op=.call { callee:=.builtin .append,args:=#[s,x],argTypes:=#[40,40] }) (base:Nat) (v:V_) (u:List ed) (q:ed) (d:Nat) (E:a.eval s=v) (A:w.ownsRow base 50 4 v u.length (dw u))
  (F:a.eval x=s_ d 1 1) (C:dh w d 50 [I_ q.op,I_ q.a,I_ q.b,I_ q.bH]) (I:u.length<=1000000) (H:base<=w.heap.size)
  (h:∀c w',w'.ownsRow base 50 4 c (u++[q]).length (dw (u++[q]))->w.grownBy w' v.ownBlock->wpList prog b Q rest (a.put o.dst c) w'):wpList prog b Q (o::rest) a w:=by
 obtain⟨G,i,l,p,r⟩:=ip_ JD;refine wo_ _ f s x 40 D base 50 G _ 4 32 underlying40 i l p r rfl d_ v u.length (dw u) E A (a_ d 0) 1 1 [I_ q.op,I_ q.a,I_ q.b,I_ q.bH] F rfl ?_ (fun z e=>by simp at e;rcases e with rfl | rfl | rfl | rfl <;> rfl) (by unfold maxLen;omega) o_ H ?_
 .intro j y e;have:=bN C e;simpa [add_eq]using this
 .intro c w' j y _;refine h c w' ?_ y;have e:dw (u++[q])=dw u++[I_ q.op,I_ q.a,I_ q.b,I_ q.bH]:=by simp[dw]
  rw[la_,e];exact j
def aiG(l:List ed)(w:W_)(e:Ending)(w':W_):Prop:=∃v,e=.returned v/\B_ w w'/\w'.ownsRow w.heap.size 50 4 v l.length (dw l)
namespace Pu
theorem zg(l:List Nat):∀(f a:Nat),a<256->a<=jD l a f/\jD l a f<256:=by
 intro f;induction f with
 | zero=>intro a h;exact⟨dF,h⟩
 | succ f b=>
  intro a h;unfold jD;split
  .rename_i c;have:=b (a+1) c.1;omega
  .exact⟨dF,h⟩
end Pu
theorem UC(l:List Nat)(w:W_)(J:l.length=256) :
  Calls prog 132 #[.agg (bZ l).toArray] w (aiG (iT l) w):=by
 have e:Hid (dh ((w.alloc (c_ (bZ l).toArray 161)).alloc (c_ #[] 50)) w.heap.size 161 (bZ l)):=cO (hn_ _ _) _;have c:Hid (B_ w ((w.alloc (c_ (bZ l).toArray 161)).alloc (c_ #[] 50))):=(kM _).alloc i_ _;have d:Hid (((w.alloc (c_ (bZ l).toArray 161)).alloc (c_ #[] 50)).ownsRow w.heap.size 50 4 (s_ (w.heap.size+1) 0 0) 0 (dw [])):=by have a:=hn_ (w.alloc (c_ (bZ l).toArray 161)) (c_ #[] 50);rw[wa_]at a;exact⟨rfl,.inr ⟨w.heap.size+1,0,#[],rfl,o_,a,dF,by unfold maxLen;omega,rfl,rfl⟩⟩
 have E:=bL J;clear J;go_in;go_wp2_with fail;go_loopg [3,4,5] 256 (fun gk i lv _ b=>∃(a f:Nat) (acc:List ed),a<=256/\gk=256-a/\lv=I_ a/\acc.length<=a/\257-a<=f/\pV l f a acc=iT l/\B_ w b/\dh b w.heap.size 161 (bZ l)/\b.ownsRow w.heap.size 50 4 i acc.length (dw acc));exact⟨0,257,[],zl_ _,rfl,rfl,dF,dF,rfl,c.o,e.o,d.o⟩;clear c e d;obtain⟨a,f,acc,ll,rfl,rfl,Y,fl,c,e,A,b⟩:=hrel;obtain⟨d,rfl⟩:∃d,f=d+1:=⟨f-1,o_⟩;have D:Hid ((if a<256 then pV l d (jD l a 256+1) (if l.getD a 0=0 then acc else acc++[⟨3,a,(jD l a 256:Nat),(l.getD a 0:Nat)⟩]) else acc)=iT l):=c;obtain⟨Z,cv,rfl,_,_⟩:=eO b;have x:=bL e;have i:=bL A;have F:=bL b;clear c e b;by_cases c:a<256
 .have S:decide ((a:Int)<256)=true:=dt_ o_;have T:=jJ a;have U:(a:Int)<256:=o_;obtain⟨p,b⟩:∃p,l[a]?=some p:=⟨_,gg_ (by rw[E.o];exact c)⟩;have X:=zg l 256 a c;have z:Hid (pV l d (jD l a 256+1) (if p=0 then acc else acc++[⟨3,a,(jD l a 256:Nat),(p:Nat)⟩])=iT l):=by have:=D.o;rw[if_pos c,show l.getD a 0=p by rw[gd_,b];rfl]at this;exact this
  have j:=bL (iQ b);have u:Hid (wr.rangeAt w.heap.size 0 (bZ l)):=eQ A;have R:(bZ l).length=256:=by rw[iE];exact E.o
  have y:=bL (fun W=>TS l a W E.o c);clear D b A;go_upto_region 5 with (first | (refine wl_ rfl 161 (.tmp 1) rfl w.heap.size 0 rfl _ _ u.o underlying161 rfl (by rw[R];kernel_rfl) ?_) | (go_at_call 146;refine (y.o _).mono ?_;rintro e r ⟨rfl,b⟩));have s:=bL (x.o.trans (b.mono x.o.size));have q:=bL (bO i.o b (bP i.o));have G:=bL (bW F.o b dF);have V:=bN q.o j.o;clear b x i F u y j;generalize j:jD l a 256=b at *;have wh:=kZ b;clear j;by_cases e:p=0
  .subst e;have j:Hid (pV l d (b+1) acc=iT l):=by have:=z.o;rw[if_pos rfl]at this;exact this
   clear z;go_wp2;go_roundg (256-(b+1));exact⟨b+1,d,acc,o_,rfl,by go_num,o_,o_,j.o,s.o,q.o,G.o⟩;omega
  .have j:Hid (pV l d (b+1) (acc++[⟨3,a,(b:Nat),(p:Nat)⟩])=iT l):=by have:=z.o;rw[if_neg e]at this;exact this
   have e1:((p:Int) == 0)=false:=by simp;omega
   have e2:¬(p:Int)=0:=o_;have e3:((p:Int) != 0)=true:=by simp;omega
   have C:B_ r (r.alloc (c_ #[I_ 3,I_ a,I_ b,I_ p] 50)):=kM _;have u:=bL (s.o.trans (C.mono s.o.size));have H:=bL (bO q.o C (bP q.o));have y:=bL (bW G.o C dF);have O:acc.length<=1000000:=o_;have I:Hid (dh (r.alloc (c_ #[I_ 3,I_ a,I_ b,I_ p] 50)) r.heap.size 50 [I_ 3,I_ a,I_ b,I_ p]):=hn_ _ _;clear z C s G q;go_upto_region 7 with (at_builtin;go_must (refine Bn rfl (.tmp 16) (.tmp 23) rfl w.heap.size _ acc ⟨3,a,(b:Nat),(p:Nat)⟩ r.heap.size rfl y.o rfl I.o O u.o.size ?_);intro v8 w8 K C);have N:=bL (dZ y.o H.o d_ C);have L:=bL (u.o.grown C u.o.size (fun Q e=>(ol_ y.o Q e).1));have Q:=bL K;clear K C y H u I V;go_wp2;go_roundg (256-(b+1));exact⟨b+1,d,_,o_,rfl,by go_num,by simp;omega,o_,j.o,L.o,N.o,Q.o⟩;omega
 .have S:decide ((a:Int)<256)=false:=dn_ o_;have R:Hid (iT l=acc):=by have:=D.o;rw[if_neg c]at this;exact this.symm
  clear D A;go_wp2;go_ret;exact⟨_,rfl,x.o,by rw[R.o];exact F.o⟩
structure Lk(gw:Nat)(ob Ty:Option Nat)(w w':W_):Prop where
 os:w'.os=w.os
 tape:w'.tape=w.tape
 output:w'.output=w.output
 size:w.heap.size<=w'.heap.size
 block:∀k,k<w.heap.size->k≠gw->some k≠ob->w'.heap[k]?=w.heap[k]?
 row:Ty=ob\/∃g,Ty=some g/\w.heap.size<=g
section
variable {gw:Nat} {ob Ty ob'':Option Nat} {w w' w'':W_}
theorem Lk.refl(gw:Nat)(ob:Option Nat)(w:W_):Lk gw ob ob w w:=⟨rfl,rfl,rfl,dF,fun _ _ _ _=>rfl,.inl rfl⟩
theorem Lk.trans(h:Lk gw ob Ty w w')(a:Lk gw Ty ob'' w' w''):Lk gw ob ob'' w w'':=by
 refine⟨a.os.trans h.os,a.tape.trans h.tape,a.output.trans h.output,lt_ h.size a.size,fun k d b c=>?_,?_⟩
 .rw [a.block k (Nat.lt_of_lt_of_le d h.size) b (fun e=>?_)]
  .exact h.block k d b c
  .rcases h.row with r | ⟨g,r,hg⟩
   .rw [r]at e;exact c e
   .rw [r]at e;have:=oi_ e;omega
 .rcases a.row with r | ⟨g,r,hg⟩
  .rcases h.row with r' | ⟨g,r',hg⟩
   .exact .inl (r.trans r')
   .exact .inr ⟨g,r.trans r',hg⟩
  .exact .inr ⟨g,r,lt_ h.size hg⟩
theorem Lk.below(h:B_ w w'):Lk gw ob ob w w':=⟨h.os,h.tape,h.output,h.size,fun k a _ _=>h.block k a,.inl rfl⟩
theorem Lk.fB(h:Lk gw ob Ty w w')(a:dh w g t xs)(b:g≠gw)(c:some g≠ob):dh w' g t xs:=by unfold dh;rw[h.block g (bP a) b c];exact a
theorem Lk.rows(h:Lk gw ob Ty w w')(a:w.ownsRow B t size v n xs)(b:∀k,v.ownBlock=some k->k≠gw/\some k≠ob):w'.ownsRow B t size v n xs:=by
 refine⟨a.1,?_⟩;rcases a.2 with h0 | ⟨g,cap,cur,h3,h4,h5,h6⟩
 .exact .inl h0
 .refine .inr ⟨g,cap,cur,h3,h4,?_,h6⟩;have k:=b g (by rw[h3];rfl);rw[h.block g (Array.getElem?_eq_some_iff.1 h5).1 k.1 k.2];exact h5
end
structure Wc(B gw:Nat)(vc:V_)(code:List ed)(W:W_):Prop where
 b:dh W gw 171 [vc]
 own:W.ownsRow B 50 4 vc code.length (dw code)
 lo:B<=gw
theorem Wc.below{W':W_}(h:Wc B gw vc code W)(a:B_ W W'):Wc B gw vc code W':=⟨bO h.b a (bP h.b),bW h.own a dF,h.lo⟩
def xz(x:ed):List V_:=[I_ x.op,I_ x.a,I_ x.b,I_ x.bH]
theorem Xn(x:ed):∀u∈xz x,u.oneCell'=true:=by intro u a;simp[xz]at a;rcases a with rfl | rfl | rfl | rfl <;> rfl
theorem Lv(code:List ed)(x:ed):dw (code++[x])=dw code++xz x:=by simp[dw,xz]
theorem abr(x:ed):Instr.fill (fun i=>some (i*4,4)) ((Array.range (1*4)).map fun j=>((Value.agg #[I_ 0,I_ 0,I_ 0,I_ 0]).cells)[j % (Value.agg #[I_ 0,I_ 0,I_ 0,I_ 0]).cells.size]!) [(0,.agg (xz x).toArray)]=some (xz x).toArray:=by rw[sP];have:=vI (fun i=>some (i*4,4)) (xz x) ((List.range (1*4)).map fun j=>((Value.agg #[I_ 0,I_ 0,I_ 0,I_ 0]).cells)[j % (Value.agg #[I_ 0,I_ 0,I_ 0,I_ 0]).cells.size]!) rfl dF;exact this
theorem sM{a:Nat}{x:ed}(h:dh W a 50 (xz x)):W.cell? (a_ a 0)=some (I_ x.op)/\W.cell? (a_ a 1)=some (I_ x.a)/\W.cell? (a_ a 2)=some (I_ x.b)/\W.cell? (a_ a 3)=some (I_ x.bH):=
 ⟨bN (j:=0) h rfl,bN (j:=1) h rfl,bN (j:=2) h rfl,bN (j:=3) h rfl⟩
def wX(B gw:Nat)(vc:V_)(code:List ed)(w:W_)(w':W_):Prop:=∃vc',Lk gw vc.ownBlock vc'.ownBlock w w'/\Wc B gw vc' code w'
theorem aeA{x:ed}{w2:W_}{a f H:Nat}(h:Wc B gw vc code W)(c:Lk gw vc.ownBlock vc.ownBlock w W)(r:w.heap.size<=H)(s:w2.ownsRow B 50 4 (s_ a (code.length+1) f) (code.length+1) (dw code++xz x))(b:W.grownBy w2 vc.ownBlock)(i:vc.ownBlock=some a\/a=H) :
  wX B gw vc (code++[x]) w (w2.setCell (a_ gw 0) (s_ a (code.length+1) f)):=by
 have l:=dZ h.own h.b d_ b;have d:=gs_ w2 gw 0 (s_ a (code.length+1) f);refine⟨s_ a (code.length+1) f,⟨d.os.trans (b.os.trans c.os),d.tape.trans (b.tape.trans c.tape),d.output.trans (b.output.trans c.output),lt_ c.size (lt_ b.size d.size),fun k j p q=>?_,?_⟩,cK l 0 _,?_,h.lo⟩
 .rw [d.block k (Nat.lt_of_lt_of_le j (lt_ c.size b.size)) (fun e=>p (oi_ e)),b.block k (Nat.lt_of_lt_of_le j c.size) q];exact c.block k j p q
 .rcases i with e | e
  .exact .inl e.symm
  .exact .inr ⟨a,rfl,by rw[e];exact r⟩
 .have:=dG s l d_ d;rw[la_,Lv];exact this
theorem ru(B gw:Nat)(vc:V_)(code:List ed)(x:ed)(w:W_)(h:Wc B gw vc code w)(hl:code.length<=1000000) :
  Calls prog 99 #[p_ gw,.agg #[I_ x.op,I_ x.a,I_ x.b,I_ x.bH]] w (fun e w'=>e=.returned (.tuple #[])/\wX B gw vc (code++[x]) w w'):=by
 obtain⟨Q,N,i,j,G⟩:=ip_ JD;have a:B_ w (w.alloc (c_ #[I_ x.op,I_ x.a,I_ x.b,I_ x.bH] 50)):=kM _;have I:=bL (h.below a);have u:Hid (Lk gw vc.ownBlock vc.ownBlock w (w.alloc (c_ #[I_ x.op,I_ x.a,I_ x.b,I_ x.bH] 50))):=.below a;have A:Hid (dh (w.alloc (c_ #[I_ x.op,I_ x.a,I_ x.b,I_ x.bH] 50)) w.heap.size 50 (xz x)):=hn_ _ _;have D:Hid (some w.heap.size≠vc.ownBlock):=fun e=>by have:=(ol_ h.own _ e.symm).2;omega
 have z:Hid (w.heap.size≠gw):=by have:=bP h.b;show _≠_;omega
 have GW:=bP h.b;have c0:=bQ 0 I.o.b rfl;have p:Hid (∀b:W_,b=w.alloc (c_ #[I_ x.op,I_ x.a,I_ x.b,I_ x.bH] 50)->w.heap.size<=b.heap.size+1):=by rintro b rfl;have:=a.size;omega
 clear a;go_in;go_wp2_with fail;have E:=bL (p.o _ rfl);clear p;generalize w.alloc (c_ #[I_ x.op,I_ x.a,I_ x.b,I_ x.bH] 50)=b at *;have p:=bL E.o;generalize F:w.heap.size=r at *;have a:=((Br_ b.heap.size b).alloc dF (c_ (xz x).toArray 50)).drew;have c:=bL (I.o.below a);have y:=bL (u.o.trans (.below a));have d:=bL (bO A.o a (bP A.o));have s:Hid (B<=(b.alloc (c_ (xz x).toArray 50)).drew.heap.size):=by have:=c.o.lo;have:=bP c.o.b;show _<=_;omega
 have U:=sM (W:=b.drew) A.o;have J:=sM d.o;have V:=bQ 0 c.o.b rfl;clear a;refine wd_ (S:=fun w'=>w'.cell? (a_ r 0)=some (I_ x.op)/\w'.cell? (a_ r 1)=some (I_ x.a)/\w'.cell? (a_ r 2)=some (I_ x.b)/\w'.cell? (a_ r 3)=some (I_ x.bH)) k_ U (fun X=>?_);refine cB 0 ?_;refine cB 1 ?_;refine cB 2 ?_;refine cB 3 ?_;refine cB 5 ?_;refine yz 4 6 (fun K a=>?_) (fun K a=>?_);focus
  go_simp;refine a.out _ _ X (fun gG=>?_);clear a K
  try simp only[oQ,Act.put]
  refine fF 6 (fun K a=>?_)
 rotate_left;rotate_left;all_goals
  refine fG 40 50 0 (.tmp 9) (.agg (xz x).toArray) rfl rfl (xz x).toArray Q _ 4 underlying40 N i j o_ o_ (abr x) ?_
 rotate_left;focus
  refine a.out _ _ J (fun gG=>?_);clear a K
  try simp only[oQ,Act.put]
  refine fF 4 (fun K a=>?_);go_simp
 all_goals
  refine a.out _ _ J (fun lT=>?_);clear a K
  try simp only[oQ,Act.put]
  refine fF 7 (fun K a=>?_);refine sa_ _ r_ _ _ _ r_ B 50 Q _ 4 32 underlying40 N i j G rfl o_ vc code.length (dw code) r_ c.o.own (a_ b.heap.size 0) 1 1 (xz x) r_ rfl (World.news_of_block (cs:=(xz x).toArray) (t:=50) (fr:=(0,0)) (hn_ _ _)) (Xn x) o_ (by unfold maxLen;omega) o_ s.o (b.heap.size+1) i_ ?_;intro Z Y w2 L q O kg;have H:=dZ c.o.own c.o.b d_ q;have C:=bR d.o q D.o;refine a.out _ _ (sM C) (fun kT=>?_);have k5:=bQ 0 H rfl;have R:=bM H 0;clear a K
  try simp only[oQ,Act.put]
  refine cB 8 ?_;refine cB 9 ?_;refine fF 10 (fun K a=>?_);go_simp;have f:=gs_ w2 gw 0 (s_ Z (code.length+1) Y);have l:=bR C f (fun e=>z.o (oi_ e));refine a.out _ _ (sM l) (fun nX=>?_);clear a K;refine wpAnyH_done k_ ?_ _;have T:=bL (aeA c.o y.o (by rw[F];exact p.o) L q O);clear kT nX H C l k5 R L q O kg f c d;go_wp2;go_end0;exact⟨rfl,T.o⟩
def xA(k:aA):List V_:=I_ k.rule::bZ k.longer
theorem Wc.ne(h:Wc B gw vc code W)(c:dh W g t xs)(f:t≠50):some g≠vc.ownBlock:=by
 intro e;rcases h.own.2 with ⟨a,_⟩ | ⟨i,cap,d,a,_,b,_⟩
 .rw [a]at e;cases e
 .rw [a]at e;cases e;unfold dh at c;rw[c]at b;cases b;exact f rfl
theorem Wc.new(h:Wc B gw vc code W){k:Nat}(a:W.heap.size<=k):some k≠vc.ownBlock:=fun e=>by have:=(ol_ h.own k e.symm).2;omega
structure Ks(B gw gk:Nat)(k:aA)(ob:Option Nat)(w:W_)(vc:V_)(code:List ed)(W:W_):Prop where
 wc:Wc B gw vc code W
 lk:Lk gw ob vc.ownBlock w W
 bx:dh W gk 169 (xA k)
section
variable {B gw gk:Nat} {k:aA} {ob:Option Nat} {w W W':W_} {vc vc':V_} {code De:List ed}
theorem Ks.below(h:Ks B gw gk k ob w vc code W)(a:B_ W W'):Ks B gw gk k ob w vc code W':=⟨h.wc.below a,h.lk.trans (.below a),bO h.bx a (bP h.bx)⟩
theorem Ks.on(h:Ks B gw gk k ob w vc code W)(a:Lk gw vc.ownBlock vc'.ownBlock W W')(b:Wc B gw vc' De W'):Ks B gw gk k ob w vc' De W':=
 ⟨b,h.lk.trans a,a.fB h.bx (dI h.bx h.wc.b d_) (h.wc.ne h.bx d_)⟩
end
namespace Pu
theorem UA(l:List Nat):∀(f a:Nat) (acc:List ed),acc.length<=a->a<=256->(pV l f a acc).length<=256:=by
 intro f;induction f with
 | zero=>intro a acc b c;exact lt_ b c
 | succ f e=>
  intro a acc b c;unfold pV;split
  .rename_i d;have:=zg l 256 a d;refine e _ _ ?_ o_;split
   .omega
   .simp;omega
  .omega
theorem Hz(l:List Nat):(iT l).length<=256:=UA l 257 0 [] dF o_
end Pu
theorem abD(B gw:Nat)(vc:V_)(code:List ed)(k:aA)(w:W_)(h:Wc B gw vc code w)(hl:code.length<=900000)(hk:k.longer.length=256) :
  Calls prog 100 #[p_ gw,.agg (xA k).toArray] w (fun e w'=>e=.returned (.tuple #[])/\wX B gw vc (code++dR k) w w'):=by
 have a:B_ w (w.alloc (c_ (xA k).toArray 169)):=kM _;have J:Hid (Ks B gw w.heap.size k vc.ownBlock w vc code (w.alloc (c_ (xA k).toArray 169))):=⟨h.below a,.below a,hn_ _ _⟩;have HK:=bL hk;clear h a hk;go_in;go_upto_region 1 with (fail);generalize w.alloc (c_ (xA k).toArray 169)=W0 at *;generalize MZ:w.heap.size=gk at *;have x0:W0.cell? (a_ gk 0)=some (I_ k.rule):=bN (j:=0) J.o.bx rfl;by_cases e:k.rule=-1;focus
  rw[e]at x0;go_upto_region 3 with (fail);clear x0;have RG:Hid (W0.rangeAt gk 1 (bZ k.longer)):=fun j u c=>by have:=eQ J.o.bx (1+j) u (by unfold xA;rw[Nat.add_comm,cs_];exact c);rwa[Nat.zero_add]at this
 rotate_left;focus
  have e1:(k.rule == -1)=false:=by simp[e]
  have R:(k.rule != -1)=true:=by simp[e]
  have e3:decide (k.rule=-1)=false:=dn_ e;go_wp2_with fail;refine (ru B gw vc code ⟨1,k.rule,0,0⟩ W0 J.o.wc o_).mono ?_;rintro Q w2 ⟨rfl,Z,d,wc⟩;have a:=bL (J.o.on d wc);clear d wc x0 J;go_upto_region 3 with (fail);have RG:Hid (w2.rangeAt gk 1 (bZ k.longer)):=fun j u c=>by have:=eQ a.o.bx (1+j) u (by unfold xA;rw[Nat.add_comm,cs_];exact c);rwa[Nat.zero_add]at this
 rotate_left;all_goals
  have ZP:(bZ k.longer).length=256:=by rw[iE];exact HK.o
  have fE:=bL (fun W=>UC k.longer W HK.o);go_upto_region 4 with (first | (refine wl_ rfl 161 (.tmp 15) rfl gk 1 rfl _ _ RG.o underlying161 rfl (by rw[ZP];kernel_rfl) ?_) | (go_at_call 132;refine (fE.o _).mono ?_;rintro e w3 ⟨vw,rfl,L,Y⟩));obtain⟨F,A,rfl,_,_⟩:=eO Y
 have D:=bL (J.o.below L);have u:=bL Y;have c:Hid (∀b,(Value.slice F (iT k.longer).length A).ownBlock=some b->b≠gw/\some b≠vc.ownBlock):=fun b e=>by have d:=(ol_ Y b e).1;exact⟨by have:=bP J.o.wc.b;omega,J.o.wc.new d⟩
 clear L Y RG fE J;rotate_left;have D:=bL (a.o.below L);have u:=bL Y;have c:Hid (∀b,(Value.slice F (iT k.longer).length A).ownBlock=some b->b≠gw/\some b≠Z.ownBlock):=fun b e=>by have d:=(ol_ Y b e).1;exact⟨by have:=bP a.o.wc.b;omega,a.o.wc.new d⟩
 clear L Y RG fE a;rotate_left;all_goals
  have WL:=Hz k.longer;generalize d:iT k.longer=a at *;have I:=bL d;clear d
 .by_cases hz:a.length=0
  .have S:Hid (code++dR k=(code++a)++[⟨5,0,0,0⟩]):=by show _=_;unfold dR;rw[I.o,if_pos hz,if_pos e];simp
   have dz:=nI (0:Int) (a.length:Int);have X:¬0<a.length:=o_;have LB:=bP D.o.wc.b;go_upto_region 7 with (fail);go_loopg [6,26] a.length (fun f _ p d=>∃(i:Nat) (q:V_),i<=a.length/\f=a.length-i/\p=I_ i/\Ks B gw gk k vc.ownBlock w q (code++a.take i) d/\d.ownsRow _ 50 4 (.slice F a.length A) a.length (dw a)/\∀b,(Value.slice F a.length A).ownBlock=some b->b≠gw/\some b≠q.ownBlock);exact⟨0,vc,zl_ _,rfl,rfl,by rw[List.take_zero,List.append_nil];exact D.o,u.o,c.o⟩;clear D u c;obtain⟨i,q,il,rfl,rfl,p,l,f⟩:=hrel;have K:=bL p;have s:=bL l;have z:=bL f;by_cases N:i<a.length
   .exact absurd N o_
   .have d1:=nI i a.length;have d:i=a.length:=o_;have x:Hid (code++a.take i=code++a):=by show _=_;rw[d,List.take_length]
    have C:Hid ((code++a).length<=1000000):=by show _<=_;simp only[la_];omega
    rw[x.o]at p;have y:=bL p;clear p l f K s z x d;go_wp2_with fail;refine (ru B gw q _ ⟨5,0,0,0⟩ wr y.o.wc C.o).mono ?_;rintro Q O ⟨rfl,E,d,wc⟩;have x:Hid (wX B gw vc (code++dR k) w O):=⟨E,y.o.lk.trans d,by rw[S.o];exact wc⟩;clear d wc y;go_wp2;go_end0;exact⟨rfl,x.o⟩
  .have S:Hid (code++dR k=((code++[(⟨2,0,0,0⟩:ed)])++a)++[⟨5,0,0,0⟩]):=by show _=_;unfold dR;rw[I.o,if_neg hz,if_pos e];simp
   have dz:=oL (0:Int) (a.length:Int);have X:0<a.length:=o_;go_wp2_with fail;refine (ru B gw vc _ ⟨2,0,0,0⟩ w3 D.o.wc (by (try simp only[la_,lc_,ln_]);omega)).mono ?_;rintro Q w4 ⟨rfl,H,d,wc⟩;have l:=bL (D.o.on d wc);have f:=bL (d.rows u.o c.o);have i:Hid (∀b,(Value.slice F a.length A).ownBlock=some b->b≠gw/\some b≠H.ownBlock):=fun b eb=>by
    refine⟨(c.o b eb).1,?_⟩;rcases d.row with r | ⟨g,r,hg⟩
    .rw [r];exact (c.o b eb).2
    .rw [r];intro R;have:=oi_ R;have:=(ol_ u.o b eb).2;omega
   clear d wc D u c;have u:=bL f.o;have c:=bL i.o;clear f i;have LB:=bP l.o.wc.b;go_upto_region 7 with (fail);go_loopg [6,26] a.length (fun f _ p d=>∃(i:Nat) (q:V_),i<=a.length/\f=a.length-i/\p=I_ i/\Ks B gw gk k vc.ownBlock w q ((code++[(⟨2,0,0,0⟩:ed)])++a.take i) d/\d.ownsRow _ 50 4 (.slice F a.length A) a.length (dw a)/\∀b,(Value.slice F a.length A).ownBlock=some b->b≠gw/\some b≠q.ownBlock);exact⟨0,H,zl_ _,rfl,rfl,by rw[List.take_zero,List.append_nil];exact l.o,u.o,c.o⟩;clear l u c;obtain⟨i,q,il,rfl,rfl,p,l,f⟩:=hrel;have K:=bL p;have s:=bL l;have z:=bL f;by_cases N:i<a.length
   .have d1:=oL i a.length;have wi:=kZ i;have ii0:=jJ i;have ii1:(i:Int)<a.length:=o_;obtain⟨y,E⟩:=rG a i N;obtain⟨G,cv,ev,_,_⟩:=dL l o_;cases ev;have V:a.getD i Pu.aS=y:=by rw[gd_,E];rfl
    have d:=ng a i N;rw[V]at d;have y0:wr.cell? (a_ G (i*4))=some (I_ y.op):=by have:=bV l d.1;rwa[Nat.mul_comm]at this
    have y1:wr.cell? (a_ G (i*4+1))=some (I_ y.a):=by have:=bV l d.2.1;rwa[Nat.mul_comm]at this
    have y2:wr.cell? (a_ G (i*4+2))=some (I_ y.b):=by have:=bV l d.2.2.1;rwa[Nat.mul_comm]at this
    have y3:wr.cell? (a_ G (i*4+3))=some (I_ y.bH):=by have:=bV l d.2.2.2;rwa[Nat.mul_comm]at this
    have O:B_ wr (wr.alloc (c_ #[I_ y.op,I_ y.a,I_ y.b,I_ y.bH] 50)):=kM _;have T:=bL (p.below O);have U:=bL (bW l O dF);have YB:Hid (dh (wr.alloc (c_ #[I_ y.op,I_ y.a,I_ y.b,I_ y.bH] 50)) wr.heap.size 50 (xz y)):=hn_ _ _;have x:Hid ((code++[(⟨2,0,0,0⟩:ed)])++a.take (i+1)=((code++[(⟨2,0,0,0⟩:ed)])++a.take i)++[y]):=by show _=_;rw[List.take_add_one,E];simp[aa_]
    have C:Hid (((code++[(⟨2,0,0,0⟩:ed)])++a.take i).length<=1000000):=by show _<=_;simp only[la_,List.length_take,lc_,ln_];omega
    clear p l f d V E O K s;go_upto_region 9 with (fail);generalize wr.alloc (c_ #[I_ y.op,I_ y.a,I_ y.b,I_ y.bH] 50)=W5 at *;generalize wr.heap.size=V at *;clear y0 y1 y2 y3;obtain⟨z0,z1,z2,z3⟩:=sM YB.o;go_wp2_with fail;refine (ru B gw q _ y W5 T.o.wc C.o).mono ?_;rintro Q O ⟨rfl,E,d,wc⟩;have K6:=bL (T.o.on d wc);have O6:=bL (d.rows U.o z.o);have N6:Hid (∀b,(s_ G a.length A).ownBlock=some b->b≠gw/\some b≠E.ownBlock):=fun b eb=>by
     refine⟨(z.o b eb).1,?_⟩;rcases d.row with r | ⟨g,r,hg⟩
     .rw [r];exact (z.o b eb).2
     .rw [r];intro R;have:=oi_ R;have:=(ol_ U.o b eb).2;omega
    clear d wc T U z0 z1 z2 z3 YB z C;go_wp2;go_roundg (a.length-(i+1));exact⟨i+1,E,o_,rfl,by go_num,by rw[x.o];exact K6.o,O6.o,N6.o⟩;omega
   .have d1:=nI i a.length;have d:i=a.length:=o_;have x:Hid ((code++[(⟨2,0,0,0⟩:ed)])++a.take i=(code++[(⟨2,0,0,0⟩:ed)])++a):=by show _=_;rw[d,List.take_length]
    have C:Hid (((code++[(⟨2,0,0,0⟩:ed)])++a).length<=1000000):=by show _<=_;simp only[la_,lc_,ln_];omega
    rw[x.o]at p;have y:=bL p;clear p l f K s z x d;go_wp2_with fail;refine (ru B gw q _ ⟨5,0,0,0⟩ wr y.o.wc C.o).mono ?_;rintro Q O ⟨rfl,E,d,wc⟩;have x:Hid (wX B gw vc (code++dR k) w O):=⟨E,y.o.lk.trans d,by rw[S.o];exact wc⟩;clear d wc y;go_wp2;go_end0;exact⟨rfl,x.o⟩
 .by_cases hz:a.length=0
  .have S:Hid (code++dR k=((code++[(⟨1,k.rule,0,0⟩:ed)])++a)++[⟨5,0,0,0⟩]):=by show _=_;unfold dR;rw[I.o,if_pos hz,if_neg e];simp
   have dz:=nI (0:Int) (a.length:Int);have X:¬0<a.length:=o_;have LB:=bP D.o.wc.b;go_upto_region 7 with (fail);go_loopg [6,26] a.length (fun f _ p d=>∃(i:Nat) (q:V_),i<=a.length/\f=a.length-i/\p=I_ i/\Ks B gw gk k vc.ownBlock w q ((code++[(⟨1,k.rule,0,0⟩:ed)])++a.take i) d/\d.ownsRow _ 50 4 (.slice F a.length A) a.length (dw a)/\∀b,(Value.slice F a.length A).ownBlock=some b->b≠gw/\some b≠q.ownBlock);exact⟨0,Z,zl_ _,rfl,rfl,by rw[List.take_zero,List.append_nil];exact D.o,u.o,c.o⟩;clear D u c;obtain⟨i,q,il,rfl,rfl,p,l,f⟩:=hrel;have K:=bL p;have s:=bL l;have z:=bL f;by_cases N:i<a.length
   .exact absurd N o_
   .have d1:=nI i a.length;have d:i=a.length:=o_;have x:Hid ((code++[(⟨1,k.rule,0,0⟩:ed)])++a.take i=(code++[(⟨1,k.rule,0,0⟩:ed)])++a):=by show _=_;rw[d,List.take_length]
    have C:Hid (((code++[(⟨1,k.rule,0,0⟩:ed)])++a).length<=1000000):=by show _<=_;simp only[la_,lc_,ln_];omega
    rw[x.o]at p;have y:=bL p;clear p l f K s z x d;go_wp2_with fail;refine (ru B gw q _ ⟨5,0,0,0⟩ wr y.o.wc C.o).mono ?_;rintro Q O ⟨rfl,E,d,wc⟩;have x:Hid (wX B gw vc (code++dR k) w O):=⟨E,y.o.lk.trans d,by rw[S.o];exact wc⟩;clear d wc y;go_wp2;go_end0;exact⟨rfl,x.o⟩
  .have S:Hid (code++dR k=(((code++[(⟨1,k.rule,0,0⟩:ed)])++[(⟨2,0,0,0⟩:ed)])++a)++[⟨5,0,0,0⟩]):=by show _=_;unfold dR;rw[I.o,if_neg hz,if_neg e];simp
   have dz:=oL (0:Int) (a.length:Int);have X:0<a.length:=o_;go_wp2_with fail;refine (ru B gw Z _ ⟨2,0,0,0⟩ w3 D.o.wc (by (try simp only[la_,lc_,ln_]);omega)).mono ?_;rintro Q w4 ⟨rfl,H,d,wc⟩;have l:=bL (D.o.on d wc);have f:=bL (d.rows u.o c.o);have i:Hid (∀b,(Value.slice F a.length A).ownBlock=some b->b≠gw/\some b≠H.ownBlock):=fun b eb=>by
    refine⟨(c.o b eb).1,?_⟩;rcases d.row with r | ⟨g,r,hg⟩
    .rw [r];exact (c.o b eb).2
    .rw [r];intro R;have:=oi_ R;have:=(ol_ u.o b eb).2;omega
   clear d wc D u c;have u:=bL f.o;have c:=bL i.o;clear f i;have LB:=bP l.o.wc.b;go_upto_region 7 with (fail);go_loopg [6,26] a.length (fun f _ p d=>∃(i:Nat) (q:V_),i<=a.length/\f=a.length-i/\p=I_ i/\Ks B gw gk k vc.ownBlock w q (((code++[(⟨1,k.rule,0,0⟩:ed)])++[(⟨2,0,0,0⟩:ed)])++a.take i) d/\d.ownsRow _ 50 4 (.slice F a.length A) a.length (dw a)/\∀b,(Value.slice F a.length A).ownBlock=some b->b≠gw/\some b≠q.ownBlock);exact⟨0,H,zl_ _,rfl,rfl,by rw[List.take_zero,List.append_nil];exact l.o,u.o,c.o⟩;clear l u c;obtain⟨i,q,il,rfl,rfl,p,l,f⟩:=hrel;have K:=bL p;have s:=bL l;have z:=bL f;by_cases N:i<a.length
   .have d1:=oL i a.length;have wi:=kZ i;have ii0:=jJ i;have ii1:(i:Int)<a.length:=o_;obtain⟨y,E⟩:=rG a i N;obtain⟨G,cv,ev,_,_⟩:=dL l o_;cases ev;have V:a.getD i Pu.aS=y:=by rw[gd_,E];rfl
    have d:=ng a i N;rw[V]at d;have y0:wr.cell? (a_ G (i*4))=some (I_ y.op):=by have:=bV l d.1;rwa[Nat.mul_comm]at this
    have y1:wr.cell? (a_ G (i*4+1))=some (I_ y.a):=by have:=bV l d.2.1;rwa[Nat.mul_comm]at this
    have y2:wr.cell? (a_ G (i*4+2))=some (I_ y.b):=by have:=bV l d.2.2.1;rwa[Nat.mul_comm]at this
    have y3:wr.cell? (a_ G (i*4+3))=some (I_ y.bH):=by have:=bV l d.2.2.2;rwa[Nat.mul_comm]at this
    have O:B_ wr (wr.alloc (c_ #[I_ y.op,I_ y.a,I_ y.b,I_ y.bH] 50)):=kM _;have T:=bL (p.below O);have U:=bL (bW l O dF);have YB:Hid (dh (wr.alloc (c_ #[I_ y.op,I_ y.a,I_ y.b,I_ y.bH] 50)) wr.heap.size 50 (xz y)):=hn_ _ _;have x:Hid (((code++[(⟨1,k.rule,0,0⟩:ed)])++[(⟨2,0,0,0⟩:ed)])++a.take (i+1)=(((code++[(⟨1,k.rule,0,0⟩:ed)])++[(⟨2,0,0,0⟩:ed)])++a.take i)++[y]):=by show _=_;rw[List.take_add_one,E];simp[aa_]
    have C:Hid ((((code++[(⟨1,k.rule,0,0⟩:ed)])++[(⟨2,0,0,0⟩:ed)])++a.take i).length<=1000000):=by show _<=_;simp only[la_,List.length_take,lc_,ln_];omega
    clear p l f d V E O K s;go_upto_region 9 with (fail);generalize wr.alloc (c_ #[I_ y.op,I_ y.a,I_ y.b,I_ y.bH] 50)=W5 at *;generalize wr.heap.size=V at *;clear y0 y1 y2 y3;obtain⟨z0,z1,z2,z3⟩:=sM YB.o;go_wp2_with fail;refine (ru B gw q _ y W5 T.o.wc C.o).mono ?_;rintro Q O ⟨rfl,E,d,wc⟩;have K6:=bL (T.o.on d wc);have O6:=bL (d.rows U.o z.o);have N6:Hid (∀b,(s_ G a.length A).ownBlock=some b->b≠gw/\some b≠E.ownBlock):=fun b eb=>by
     refine⟨(z.o b eb).1,?_⟩;rcases d.row with r | ⟨g,r,hg⟩
     .rw [r];exact (z.o b eb).2
     .rw [r];intro R;have:=oi_ R;have:=(ol_ U.o b eb).2;omega
    clear d wc T U z0 z1 z2 z3 YB z C;go_wp2;go_roundg (a.length-(i+1));exact⟨i+1,E,o_,rfl,by go_num,by rw[x.o];exact K6.o,O6.o,N6.o⟩;omega
   .have d1:=nI i a.length;have d:i=a.length:=o_;have x:Hid (((code++[(⟨1,k.rule,0,0⟩:ed)])++[(⟨2,0,0,0⟩:ed)])++a.take i=((code++[(⟨1,k.rule,0,0⟩:ed)])++[(⟨2,0,0,0⟩:ed)])++a):=by show _=_;rw[d,List.take_length]
    have C:Hid ((((code++[(⟨1,k.rule,0,0⟩:ed)])++[(⟨2,0,0,0⟩:ed)])++a).length<=1000000):=by show _<=_;simp only[la_,lc_,ln_];omega
    rw[x.o]at p;have y:=bL p;clear p l f K s z x d;go_wp2_with fail;refine (ru B gw q _ ⟨5,0,0,0⟩ wr y.o.wc C.o).mono ?_;rintro Q O ⟨rfl,E,d,wc⟩;have x:Hid (wX B gw vc (code++dR k) w O):=⟨E,y.o.lk.trans d,by rw[S.o];exact wc⟩;clear d wc y;go_wp2;go_end0;exact⟨rfl,x.o⟩
namespace Pu
def oO(a:List Nat)(b e:Nat)(code:List ed):List ed:=code.mapIdx (fun i x=>if b<=i/\i<e then lY a x else x)
theorem zO(a:List Nat)(b e:Nat)(code:List ed):(oO a b e code).length=code.length:=by simp[oO]
theorem tO(a:List Nat)(b e:Nat)(code:List ed)(i:Nat):(oO a b e code)[i]?=(code[i]?).map (fun x=>if b<=i/\i<e then lY a x else x):=by simp[oO]
theorem Pn(a:List Nat)(b:Nat)(code:List ed):oO a b b code=code:=by
 apply List.ext_getElem?;intro i;rw[tO];cases code[i]? with
 | none=>rfl
 | some x=>simp only[Option.map_some];rw[if_neg o_]
theorem Pk(a:List Nat){b e:Nat}(code:List ed){x:ed}(f:b<=e)(d:code[e]?=some x):oO a b (e+1) code=(oO a b e code).set e (lY a x):=by
 have j:=(ge_.1 d).1;apply List.ext_getElem?;intro i;rw[tO,List.getElem?_set,zO];by_cases h:e=i
 .subst h;rw[if_pos rfl,if_pos j,d];simp[f]
 .rw [if_neg h,tO];cases code[i]? with
  | none=>rfl
  | some y=>
   simp only[Option.map_some];by_cases c:b<=i/\i<e
   .rw [if_pos c,if_pos o_]
   .rw [if_neg c,if_neg o_]
theorem SH(a:List Nat)(b:Nat)(code:List ed):oO a b code.length code=code.take b++(code.drop b).map (lY a):=by
 apply List.ext_getElem?;intro i;rw[tO];by_cases c:i<b
 .by_cases d:i<code.length
  .rw [al_ (by simp;omega),List.getElem?_take_of_lt c,gg_ d];simp only[Option.map_some];rw[if_neg o_]
  .rw [gn_ o_,ar_ (by simp;omega),gn_ (by simp;omega)];rfl
 .by_cases d:i<code.length
  .rw [ar_ (by simp;omega),gm_,List.getElem?_drop,List.length_take,Nat.min_eq_left o_,(o_:b+(i-b)=i),gg_ d];simp only[Option.map_some];rw[if_pos o_]
  .rw [gn_ o_,ar_ (by simp;omega),gn_ (by simp;omega)];rfl
end Pu
theorem Qd{q l p a n' i:Nat}{ys zs:List V_}(h:w.ownsRow B t size v n xs)(j:dh w g l ys)(D:w.ownsRow q p a (s_ i n' cap) n' zs)(z:t≠l)(A:t≠p):∀k,v.ownBlock=some k->k≠g/\some k≠some i:=by
 intro k b;rcases h.2 with ⟨d,_⟩ | ⟨y,E,s,d,_,c,_⟩
 .rw [d]at b;cases b
 .rw [d]at b;have u:y=k:=oi_ b;subst u;refine⟨fun e=>?_,fun e=>?_⟩
  .subst e;unfold dh at j;rw[j]at c;cases c;exact z rfl
  .have x:=oi_ e;subst x;rcases D.2 with ⟨f,_⟩ | ⟨G,F,r,f,_,C,_⟩
   .cases f
   .cases f;rw[C]at c;cases c;exact A rfl
theorem PT(h:w.ownsRow B t size (s_ g n cap) n xs)(j:Nat):w.frozen? (a_ g j)=false:=by
 rcases h.2 with ⟨b,_⟩ | ⟨f,e,a,b,_,c,_⟩
 .cases b
 .cases b;have d:dh w g t a.toList:=by unfold dh;rw[c]
  exact bM d j
theorem abO(B gw bg:Nat)(vc Y:V_)(code:List ed)(a:List Nat)(w:W_)(h:Wc B gw vc code w)(L:fe w Y a)(hl:code.length<=1000000)(hb:bg<=code.length)(y:0<code.length)(hsl:a.length<=1000)(A:∀(i:Nat) (x:ed),bg<=i->code[i]?=some x->x.op=3->∃t:Nat,x.bH=(t:Int)/\t<a.length) :
  Calls prog 101 #[p_ gw,I_ bg,Y] w (fun e w'=>e=.returned (.tuple #[])/\wX B gw vc (code.take bg++(code.drop bg).map (lY a)) w w'):=by
 obtain⟨b,p,J,_,_⟩:=dL h.own y;subst J;obtain⟨av,cv,rfl,_,_,_⟩:=L.form;have F:=bL h;have O:=bL L;have G:=bL A;clear h L A;go_in;go_wp2_with fail;go_loopg [6] (code.length-bg) (fun gk d c=>∃(i:Nat),bg<=i/\i<=code.length/\gk=code.length-i/\d=I_ i/\Wc B gw (s_ b code.length p) (oO a bg i code) c/\Lk gw (some b) (some b) w c);exact⟨bg,dF,hb,rfl,rfl,by rw[Pn];exact F.o,Lk.refl _ _ _⟩;obtain⟨i,X,i2,rfl,rfl,r,D⟩:=hrel;have s:=zO a bg i code;have c0:=bQ 0 r.b rfl;by_cases V:i<code.length
 .have d1:=oL i code.length;have wi:=kZ i;have ii0:=jJ i;have ii1:(i:Int)<code.length:=o_;obtain⟨x,z⟩:=rG code i V;have H:(oO a bg i code)[i]?=some x:=by rw[tO,z];simp
  have I:=bL (Pk a code X z);have q:=ng (oO a bg i code) i o_;rw[gd_,H]at q;simp only[Option.getD_some]at q;have c:=r.own;rw[s]at c;have y0:wr.cell? (a_ b (i*4))=some (I_ x.op):=by have:=bV c q.1;rwa[Nat.mul_comm]at this
  have y3:wr.cell? (a_ b (i*4+3))=some (I_ x.bH):=by have:=bV c q.2.2.2;rwa[Nat.mul_comm]at this
  have d:=bL r;have C:=bL D;have E:=bL H;have Q:=bL z;have f:=bL c;clear r D q H z c;by_cases e:x.op=3
  .obtain⟨t,K,tl⟩:=G.o i x X Q.o e;rw[e]at y0;rw[K]at y3;have H:=Qd O.o F.o.b F.o.own d_ d_;have T:=C.o.rows O.o (fun k c=>H k c);obtain⟨gs,es,_,sc⟩:=fe.some (l:=a) T o_;subst es;obtain⟨z,N⟩:=rG a t tl;have sz:=sc t z N;have n1:=H gs rfl;have it0:=jJ t;have it1:(t:Int)<a.length:=o_;have fz:wr.frozen? (a_ b (i*4+3))=false:=PT f.o _;have U:gw≠b:=fun q=>d.o.ne d.o.b d_ (by rw[q];rfl);have Z:Hid (wr.drew.cell? (a_ gw 0)=some (s_ b code.length p)/\wr.drew.cell? (a_ gs t)=some (I_ z)):=⟨c0,sz⟩;have R:lY a x=⟨3,x.a,x.b,(z:Int)⟩:=by unfold lY;rw[if_pos e,K,tn_,gd_,N];cases x;simp only at e;subst e;rfl
   have c:=gs_ wr b (i*4+3) (I_ z);have S2:Hid ((wr.setCell (a_ b (i*4+3)) (I_ z)).drew.cell? (a_ gw 0)=some (s_ b code.length p)/\(wr.setCell (a_ b (i*4+3)) (I_ z)).drew.cell? (a_ gs t)=some (I_ z)):=by refine⟨bN (j:=0) (bR d.o.b c (fun q=>U (oi_ q))) rfl,?_⟩;exact (World.cell?_setCell_other _ _ _ _ (by intro q;cases q;exact n1.2 rfl)).trans sz
   have W9:Hid (Wc B gw (s_ b code.length p) (oO a bg (i+1) code) (wr.setCell (a_ b (i*4+3)) (I_ z)).drew):=by
    have b9:=bR d.o.b c (fun q=>U (oi_ q));refine⟨b9,?_,d.o.lo⟩;have o9:=World.ownsRow.drew (LZ (j:=i*4+3) (u:=I_ z) f.o);rw[zO,I.o,R];have q:Pu.aO (oO a bg i code) i=x:=by unfold Pu.aO;rw[gd_,E.o];rfl
    have:=(Lx (oO a bg i code) i o_ ⟨3,x.a,x.b,(z:Int)⟩).2.2.1 (by rw[q];exact e.symm) (by rw[q]) (by rw[q]);rw[<-this];exact o9
   have q:Hid (Lk gw (some b) (some b) w (wr.setCell (a_ b (i*4+3)) (I_ z)).drew):=C.o.trans ⟨c.os,c.tape,c.output,c.size,fun k hk _ h2=>c.block k hk h2,.inl rfl⟩;clear H T sc N R c s d C f I E Q K;go_wp2_with fail;refine wd_ (S:=fun w'=>w'.cell? (a_ gw 0)=some (s_ b code.length p)/\w'.cell? (a_ gs t)=some (I_ z)) k_ Z.o (fun H=>?_);refine cB 0 ?_;refine cB 1 ?_;refine cB 2 ?_;refine cB 3 ?_;refine cB 4 ?_;refine cB 5 ?_;refine cB 6 ?_;refine cB 7 ?_;refine cB 8 ?_;refine cB 9 ?_;refine cB 10 ?_;refine cB 11 ?_;refine cB 12 ?_;refine fF 13 (fun K c=>?_);go_simp;refine c.out _ _ H (fun N=>?_);clear c K
   try simp only[oQ,Act.put]
   refine cB 14 ?_;refine cB 15 ?_;refine cB 16 ?_;refine cB 17 ?_;refine fF 18 (fun K c=>?_);go_simp;refine c.out _ _ S2.o (fun R=>?_);clear c K;refine wpAnyH_done k_ ?_ _;go_wp2;go_roundg (code.length-(i+1));exact⟨i+1,o_,o_,rfl,by go_num,W9.o,q.o⟩;omega
  .have z:(x.op == 3)=false:=by simp[e]
   have H:decide (x.op=3)=false:=dn_ e;have c:Hid (oO a bg (i+1) code=oO a bg i code):=by
    show _=_;rw[I.o];have:lY a x=x:=by unfold lY;rw[if_neg e]
    rw[this];exact List.ext_getElem? (fun j=>by
     rw[List.getElem?_set];split
     .rename_i q;subst q;rw[if_pos (by rw[s];exact V)];exact E.o.symm
     .rfl)
   clear s;go_wp2;go_roundg (code.length-(i+1));exact⟨i+1,o_,o_,rfl,by go_num,by rw[c.o];exact d.o,C.o⟩;omega
 .have d1:=nI i code.length;have e:i=code.length:=o_;have c:Hid (wX B gw (s_ b code.length p) (code.take bg++(code.drop bg).map (lY a)) w wr):=by refine⟨s_ b code.length p,D,?_⟩;rw[<-SH,<-e];have:=r;rw[e]at this |-;exact this
  clear r D e s;go_wp2;go_end0;exact⟨rfl,c.o⟩
def kdZ:List V_:=I_ 0::List.replicate 256 (I_ 0)
theorem wN:kdZ.length=257:=by unfold kdZ;rw[lc_,lp_]
theorem Ey:(prog.info? 169).map (fun i=>(i.zero,i.size,i.bytes))=some (some (.agg kdZ.toArray),257,2056):=k_
theorem abB(w:W_):(zeroValue 169).run prog w=.ok (.agg kdZ.toArray) w:=by obtain⟨i,a,b,_⟩:=ip_ Ey;simp[zeroValue,typeInfo,go_sem,a,b]
theorem LH:(prog.info? 169).map (·.size)=some 257:=by obtain⟨i,a,_,b,_⟩:=ip_ Ey;rw[a,Option.map_some,b]
theorem abA(r:Int):prog.built 169 [(0,I_ r)]=some ((I_ r)::List.replicate 256 (I_ 0)).toArray:=k_
theorem aet(r:Int):xA ⟨r,Pu.kL⟩=(I_ r)::List.replicate 256 (I_ 0):=by unfold xA;rw[age]
theorem pR{k:aA}(h:k.longer.length=256):(xA k).length=257:=by simp[xA,iE,h]
theorem Vo(k:aA):∀u∈xA k,u.oneCell'=true:=by
 intro u a;rcases mm_.1 a with e | e
 .rw [e];rfl
 .simp only[bZ,List.mem_map]at e;obtain⟨z,_,rfl⟩:=e;rfl
def AJ(K:List aA):List V_:=K.flatMap xA
theorem OQ(a b:List aA):AJ (a++b)=AJ a++AJ b:=by simp[AJ]
theorem abC{K:List aA}(h:∀k∈K,k.longer.length=256){p j:Nat}{k:aA}(a:K[p]?=some k)(e:j<257):(AJ K)[p*257+j]?=(xA k)[j]?:=by
 induction K generalizing p with
 | nil=>simp at a
 | cons z r d=>
  have c:=pR (h z (ms_ ..));show (xA z++AJ r)[p*257+j]?=_;cases p with
  | zero=>rw[List.getElem?_cons_zero]at a;cases a;rw[Nat.zero_mul,Nat.zero_add,al_ o_]
  | succ p=>rw[cs_]at a;rw[ar_ o_,c,(o_:(p+1)*257+j-257=p*257+j)];exact d (fun t b=>h t (mc_ _ b)) a
structure MV(B:Nat)(W:W_)(v:V_)(K:List aA):Prop where
 own:W.ownsRow B 169 257 v K.length (AJ K)
 len:∀k∈K,k.longer.length=256
theorem MV.below{W':W_}{K:List aA}(h:MV B W v K)(a:B_ W W'):MV B W' v K:=⟨bW h.own a dF,h.len⟩
theorem MV.get{gs:Nat}{K:List aA}(h:MV B W (s_ gs n cap) K){p:Nat}{k:aA}(a:K[p]?=some k):n=K.length/\W.rangeAt gs (p*257) (xA k):=by
 have i:=(ge_.1 a).1;obtain⟨g,c,e,_,_⟩:=dL h.own o_;cases e;refine⟨rfl,fun j u d=>?_⟩;have f:j<257:=by have:=(ge_.1 d).1;rwa[pR (h.len k (mg_ a))]at this
 have b:=abC h.len a f;rw[d]at b;exact bV h.own b
theorem CJ{b:Array Oper}{rest:List Oper}{o:Oper}{a:Act}{Q:Exit->Act->W_->Prop}(f:o.guard=none)(s x:Operand)
  (C:o.op=.call { callee:=.builtin .append,args:=#[s,x],argTypes:=#[132,132] }) (base:Nat) (v:V_) (K:List aA) (D:a.eval s=v) (r:w.ownsRow base 169 257 v K.length (AJ K))
  (d:Nat) (k:aA) (E:a.eval x=s_ d 1 1) (z:dh w d 169 (xA k)) (A:k.longer.length=256) (H:K.length<=1000) (G:base<=w.heap.size)
  (h:∀c w',w'.ownsRow base 169 257 c (K++[k]).length (AJ (K++[k]))->w.grownBy w' v.ownBlock->wpList prog b Q rest (a.put o.dst c) w'):wpList prog b Q (o::rest) a w:=by
 obtain⟨F,i,l,p,q⟩:=ip_ Ey;refine wo_ _ f s x 132 C base 169 F _ 257 2056 underlying132 i l p q (by simp[Value.cells,wN]) d_ v K.length (AJ K) D r (a_ d 0) 1 1 (xA k) E (by rw[pR A]) ?_ (Vo k) (by unfold maxLen;omega) o_ G ?_
 .intro j y e;have:=bN z e;simpa [add_eq]using this
 .intro c w' j u _;refine h c w' ?_ u;rw[la_,OQ];have e:AJ [k]=xA k:=by simp[AJ]
  rw[e];exact j
theorem YT{ss:List Pu.aN}(h:rC B W v ss):rC 0 W v ss:=by obtain⟨e,a,b,c,d⟩:=h;exact⟨e,dH a (zl_ _),b,c,d⟩
structure Fa(w:W_)(gs cap:Nat)(vr:V_)(ss:List Pu.aN)(rs:List Int)(W:W_):Prop where
 be:B_ w W
 b:dh W w.heap.size 160 [s_ gs ss.length cap,vr]
 r:W.ownsRow w.heap.size 3 1 vr rs.length (bY rs)
section
variable {w W W' w2:W_} {gs cap:Nat} {vr:V_} {ss:List Pu.aN} {rs:List Int}
theorem Fa.below(h:Fa w gs cap vr ss rs W)(a:B_ W W'):Fa w gs cap vr ss rs W':=
 ⟨ja h.be a,bO h.b a (bP h.b),bW h.r a dF⟩
theorem Fa.add(h:Fa w gs cap vr ss rs W){r:Int}{a:V_}(i:w2.ownsRow w.heap.size 3 1 a (rs.length+1) (bY rs++[I_ r]))(f:W.grownBy w2 vr.ownBlock) :
  Fa w gs cap a ss (rs++[r]) (w2.setCell (a_ w.heap.size 1) a):=by
 have c:=dZ h.r h.b d_ f;have d:=gs_ w2 w.heap.size 1 a;have b:B_ w w2:=h.be.grown f h.be.size (fun k e=>(ol_ h.r k e).1);refine⟨b.grown d b.size (fun k e=>by cases e;exact dF),cK c 1 _,?_⟩;have:w2.ownsRow w.heap.size 3 1 a (rs++[r]).length (bY (rs++[r])):=by
  rw[la_];have e:bY (rs++[r])=bY rs++[I_ r]:=by simp[bY]
  rw[e];exact i
 exact dG this c d_ d
theorem Fa.md(h:Fa w gs cap vr ss rs W)(b:rC 0 W (s_ gs ss.length cap) ss)(a:rs.length=ss.length):Md 0 w.heap.size gs cap vr ss rs W:=⟨h.b,b,dH h.r (zl_ _),a⟩
end
namespace Pu
theorem Mr(ls:List aD)(ss:List aN){k:Nat}{x:aN}(h:ss[k]?=some x):(dJ ls ss).take (k+1)=(dJ ls ss).take k++[gX ls x.places]:=by rw[List.take_add_one];unfold dJ;rw[gm_,h];rfl
theorem lH(ls:List aD)(ss:List aN):(dJ ls ss).length=ss.length:=by simp[dJ]
end Pu
end Go.Proofs.YtmccnmgaoppogabGreat
