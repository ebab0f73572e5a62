import Derived.Test.YtmccnmgaoppogabGreatuHE
namespace Go.Proofs.YtmccnmgaoppogabGreat
open Pu
set_option linter.all false
open Go.Proofs.Tryz Tryz
set_option maxRecDepth 100000
set_option maxHeartbeats 8000000
open Go.RowKit
theorem uY{P:Program}{w:W_}{b:Array Oper}{rest:List Oper}{o:Oper}{a:Act}{Q:Exit->Act->W_->Prop}(c:o.guard=none)(t:TypeId)(d e:Operand)(f g:V_)(n:o.op=.build t #[(0,d),(1,e)])(i:a.eval d=f)(j:a.eval e=g)(cells:Array V_)(l:P.built t [(0,f),(1,g)]=some cells)
  (h:wpList P b Q rest (a.put o.dst (.agg cells)) w):wpList P b Q (o::rest) a w:=
 wpList_plain c fun K k=>by subst i j;have p:=run_build (P:=P) w t #[(0,a.eval d),(1,a.eval e)] cells l;unfold Oper.wp execOp;simp only[n,Sem.run_bind,List.map_toArray,List.map_cons,List.map_nil];rw[p];exact k _ _ h
theorem zF{P:Program}{w:W_}{b:Array Oper}{rest:List Oper}{o:Oper}{a:Act}{Q:Exit->Act->W_->Prop}(c:o.guard=none)(t:TypeId)(d e f:Operand)(g i j:V_)(r:o.op=.build t #[(0,d),(1,e),(2,f)])(k:a.eval d=g)(l:a.eval e=i)(n:a.eval f=j)(cells:Array V_)(q:P.built t [(0,g),(1,i),(2,j)]=some cells)
  (h:wpList P b Q rest (a.put o.dst (.agg cells)) w):wpList P b Q (o::rest) a w:=
 wpList_plain c fun K p=>by subst k l n;have s:=run_build (P:=P) w t #[(0,a.eval d),(1,a.eval e),(2,a.eval f)] cells q;unfold Oper.wp execOp;simp only[r,Sem.run_bind,List.map_toArray,List.map_cons,List.map_nil];rw[s];exact p _ _ h
structure DL(B g:Nat)(s:Y_)(k:Nat)(ns:List aF)(a:aM)(al:Option Addr)(nl cl:Nat)(modes down:Int)(D:Bool)(w:W_)(nv:V_)(W:W_):Prop where
 dr:∃vn,Dr B g s k (ns++Pu.nodes a ns.length) vn (.slice al nl cl) modes (Pu.dX nl D down) W
 dk:Dk B w W
 n:nv=I_ ((ns.length+a.size-1:Nat):Int)
 sz:ns.length+a.size<=2*k
theorem jN(ns:List aF)(a:aM):(ns++Pu.nodes a ns.length).length=ns.length+a.size:=by rw[la_,Pu.bT]
theorem Fz(s:Y_)(i:Nat)(U:DOK 151 .atom s i)(hs:s.size<=400):DOK 147 .pc s i:=by
 intro j re D W hF B g d vn n l p c down w h X;cases W with
 | @pc _ I _ a _ K _ b z=>
 have R:=b.size;simp only[aH.sz,aH.un]at R;have e:=bL (U I a K b trivial B g d vn n l p c down w h X);have hj:j<s.size:=hF;have q:=bL z;have Q:=z.leaves.2;clear hF h b z U;go_enter func147,ntmps147;go_wp2_with fail;refine e.o.mono ?_;clear e;rintro e w1 ⟨rfl,f,S,b⟩;have r:Hid (DL B g s I d a n l p c down K w (I_ ((d.length+a.size-1:Nat):Int)) w1):=⟨⟨S,b⟩,f,rfl,o_⟩;clear f b;go_wp2_with fail;go_loopg [3,4] (s.size-I) (fun gk f _ u=>∃k b t,gk=s.size-k/\k<=j/\DL B g s k d b n l p c down t w f u/\Pu.P s (.QU b t) k j re D);exact⟨I,a,K,rfl,Q,r.o,q.o⟩;clear r q;obtain⟨k,b,t,rfl,kj,q,z⟩:=hrel;obtain⟨y,f⟩:=q.dr;have Y:=q.n;subst Y;have Z:k<s.size:=o_;have J:=fun w=>eB s (k:Int) k rfl o_ w;have r:=mM Z;rw[<-r]at J;have k0:=jJ k;have k1:(k:Int)<s.size:=o_;have wk:=kZ k;have V:=bQ 4 f.rb rfl;have H:=bQ 5 f.rb rfl;have x:=bL f;have A:=bL q;have lsz:=q.sz;clear q f r;generalize f:((d.length+b.size-1:Nat):Int)=r at *;have G:=bL f;clear f;cases z with
 | GQ v f q=>
  have e1:(Pu.dN s j == 42)=false:=by simpa using v
  have e2:(Pu.dN s j == 43)=false:=by simpa using f
  have e3:(Pu.dN s j == 63)=false:=by simpa using q
  clear v f q;generalize Pu.dN s j=pk at *;go_wp2_with fail;go_quiet (fail);have dn:=bd_ (Br_ wr.heap.size wr) nq;have q:=bL (x.o.below dn);have C:Hid (Dk B w (wr.drewN nq)):=A.o.dk.trans (.below x.o.lt dn);clear dn x A V H J;generalize wr.drewN nq=F at *;go_wp2;go_ret;exact⟨by rw[G.o];rfl,C.o,y,q.o⟩
 | star v f=>?_
 | plus v f=>?_
 | opt v f=>?_
 all_goals
  rw[v]at J;have k2:=f.leaves.2;have L:=bL f
 have u:=bL (ym 4 r);have E:Hid ((I_ 4::I_ r::I_ 0::dD Pu.dW)=dS ⟨4,d.length+b.size-1,0,Pu.dW⟩):=by show _=_;unfold dS;simp only;rw[G.o];rfl
 rotate_left;have u:=bL (ym 5 r);have E:Hid ((I_ 5::I_ r::I_ 0::dD Pu.dW)=dS ⟨5,d.length+b.size-1,0,Pu.dW⟩):=by show _=_;unfold dS;simp only;rw[G.o];rfl
 rotate_left;have u:=bL (ym 6 r);have E:Hid ((I_ 6::I_ r::I_ 0::dD Pu.dW)=dS ⟨6,d.length+b.size-1,0,Pu.dW⟩):=by show _=_;unfold dS;simp only;rw[G.o];rfl
 rotate_left;all_goals
  rw[E.o]at u;clear v f E;go_wp2_with fail;go_quiet (fail);have dn:=bd_ (Br_ wr.heap.size wr) nq;have q:=bL (x.o.below dn);have C:Hid (Dk B w (wr.drewN nq)):=A.o.dk.trans (.below x.o.lt dn);clear dn x A V H J;generalize wr.drewN nq=F at *;have H:=bQ 5 q.o.rb rfl;have N:=bM q.o.rb 5;have f:=gs_ F g 5 (I_ ((k:Int)+1));have v:Hid (Dr B g s (k+1) (d++Pu.nodes b d.length) y (.slice n l p) c (Pu.dX l t down) (F.setCell (a_ g 5) (I_ ((k:Int)+1)))):=q.o.fD f (q.o.rb.at (k+1));have E:=bL (C.o.trans (q.o.dk f));clear f;go_upto_region 13 with (fail);clear H N q C;generalize F.setCell (a_ g 5) (I_ ((k:Int)+1))=O at *
 focus
  go_wp2_with (refine uY rfl 181 (.tmp 33) (.tmp 34) (I_ 4) (I_ r) rfl rfl rfl _ u.o ?_);refine (pq B g (k+1) s _ y (.slice n l p) c _ ⟨4,d.length+b.size-1,0,Pu.dW⟩ O v.o (by rw[jN];omega)).mono ?_
 rotate_left;focus
  go_wp2_with (refine uY rfl 181 (.tmp 33) (.tmp 34) (I_ 5) (I_ r) rfl rfl rfl _ u.o ?_);refine (pq B g (k+1) s _ y (.slice n l p) c _ ⟨5,d.length+b.size-1,0,Pu.dW⟩ O v.o (by rw[jN];omega)).mono ?_
 rotate_left;focus
  go_wp2_with (refine uY rfl 181 (.tmp 33) (.tmp 34) (I_ 6) (I_ r) rfl rfl rfl _ u.o ?_);refine (pq B g (k+1) s _ y (.slice n l p) c _ ⟨6,d.length+b.size-1,0,Pu.dW⟩ O v.o (by rw[jN];omega)).mono ?_
 rotate_left;all_goals
  rintro e T ⟨rfl,q,N,f⟩;rw[jN];rw[aa_]at f
 have C:Hid (DL B g s (k+1) d (.star b) n l p c down t w (I_ ((d.length+b.size:Nat):Int)) T):=⟨⟨N,f⟩,E.o.trans q,by show I_ ((d.length+b.size:Nat):Int)=I_ ((d.length+(b.size+1)-1:Nat):Int);rw[(o_:d.length+(b.size+1)-1=d.length+b.size)],by show d.length+(b.size+1)<=_;omega⟩;rotate_left;have C:Hid (DL B g s (k+1) d (.plus b) n l p c down t w (I_ ((d.length+b.size:Nat):Int)) T):=⟨⟨N,f⟩,E.o.trans q,by show I_ ((d.length+b.size:Nat):Int)=I_ ((d.length+(b.size+1)-1:Nat):Int);rw[(o_:d.length+(b.size+1)-1=d.length+b.size)],by show d.length+(b.size+1)<=_;omega⟩;rotate_left;focus have C:Hid (DL B g s (k+1) d (.opt b) n l p c down t w (I_ ((d.length+b.size:Nat):Int)) T):=⟨⟨N,f⟩,E.o.trans q,by show I_ ((d.length+b.size:Nat):Int)=I_ ((d.length+(b.size+1)-1:Nat):Int);rw[(o_:d.length+(b.size+1)-1=d.length+b.size)],by show d.length+(b.size+1)<=_;omega⟩
 all_goals
  clear q f v E u;generalize ((d.length+b.size:Nat):Int)=f at *;go_wp2;go_roundg (s.size-(k+1));exact⟨k+1,_,t,rfl,o_,C.o,L.o⟩;omega
namespace Pu
theorem Vh{s:Y_}{a e:aM}{k j:Nat}{D b:Bool}(h:P s (.zS a D) k j e b)(d:ZH s .pa j):ZH s .br k:=by
 cases h with
 | IK _=>
  rcases d with h | h
  .exact .inl h
  .exact .inr (.inr h)
 | zS c _ _=>exact .inr (.inl c)
theorem Vi{s:Y_}{k:Nat}(h:ZH s .br k):k<s.size:=fK (by rcases h with h | h | h <;> rw[h] <;> decide)
theorem aaS{s:Y_}{k:Nat}(h:ZH s .pa k):k<s.size:=fK (by rcases h with h | h <;> rw[h] <;> decide)
end Pu
theorem JN(ns:List aF)(a b:aM)(k:Nat):(ns++Pu.nodes a ns.length)++Pu.nodes b (ns.length+a.size)++[⟨k,ns.length+a.size-1,ns.length+a.size+b.size-1,Pu.dW⟩]=ns++(Pu.nodes a ns.length++Pu.nodes b (ns.length+a.size)++[⟨k,ns.length+a.size-1,ns.length+a.size+b.size-1,Pu.dW⟩]):=i_
theorem Df(s:Y_)(i:Nat)(y:∀k,i<=k->k<s.size->DOK 147 .pc s k)(hs:s.size<=400):DOK 133 .br s i:=by
 intro j re D hP hF B g d H q p r c down w h hl;have js:j<s.size:=Vi hF;cases hP with
 | @br _ C _ a _ K _ b A=>
 have U:=b.size;simp only[aH.sz,aH.un]at U;have Q:=A.leaves.2;have O:=b.leaves.2;have z:=bL (y i dF o_ C a K b (o_:C<s.size) B g d H q p r c down w h hl);have n:=bL hF;have l:=bL A;have y:=bL y;clear hF h b A;go_enter func133,ntmps133;go_wp2_with fail;refine z.o.mono ?_;clear z;rintro e I ⟨rfl,f,W,b⟩;have t:Hid (DL B g s C d a q p r c down K w (I_ ((d.length+a.size-1:Nat):Int)) I):=⟨⟨W,b⟩,f,rfl,o_⟩;clear f b;go_wp2_with fail;go_loopg [3,4,5] (s.size-C) (fun gk f _ _ v=>∃k b x,gk=s.size-k/\k<=j/\i<=k/\DL B g s k d b q p r c down x w f v/\Pu.P s (.Aq b x) k j re D);exact⟨C,a,K,rfl,Q,O,t.o,l.o⟩;clear t l;obtain⟨k,b,x,rfl,kj,ik,l,A⟩:=hrel;obtain⟨Uw,f⟩:=l.dr;have hn:=l.n;subst hn;have ks:k<s.size:=o_;have J:=fun w=>eB s (k:Int) k rfl o_ w;have t:=mM ks;rw[<-t]at J;have k0:=jJ k;have k1:(k:Int)<s.size:=o_;have c4:=bQ 4 f.rb rfl;have c5:=bQ 5 f.rb rfl;have u:=bL f;have F:=bL l;have S:=l.sz;clear l f t;generalize f:((d.length+b.size-1:Nat):Int)=T at *;have Zn:=bL f;clear f;cases A with
 | Lb _=>
  have N:=n.o;generalize f:Pu.dN s j=pk at J;have N:pk=32\/pk=124\/pk=41:=by rw[<-f];exact N
  clear f n y;rcases N with rfl | rfl | rfl;all_goals
   go_wp2_with fail;go_quiet (fail);have dn:=bd_ (Br_ wr.heap.size wr) nq;have E:=bL (u.o.below dn);have G:Hid (Dk B w (wr.drewN nq)):=F.o.dk.trans (.below u.o.lt dn);clear dn u F c4 c5 J;generalize wr.drewN nq=W3 at *;go_wp2;go_ret;exact⟨by rw[Zn.o];rfl,G.o,Uw,E.o⟩
 | @Aq _ v _ _ l _ _ Db _ f n t=>
  have j2j:=t.leaves.2;have V:=n.size;have R:=n.leaves;have lp:=aM.wO l;simp only[aH.sz,aH.un,aH.lv]at V R;have e1:(Pu.dN s k == 32)=false:=by unfold fV at f;simp;omega
  have e2:(Pu.dN s k == 124)=false:=by unfold fV at f;simp;omega
  have e3:(Pu.dN s k == 41)=false:=by unfold fV at f;simp;omega
  have L:=bL t;have z:=bL (fun I H (X:Dr B g s k (d++Pu.nodes b d.length) H (.slice q p r) c (Pu.dX p x down) I)=>y.o k ik ks v l Db n (o_:v<s.size) B g _ H q p r c _ I X (by rw[jN];exact S));clear f n t;generalize Pu.dN s k=pk at *;go_wp2_with fail;go_quiet (fail);have dn:=bd_ (Br_ wr.heap.size wr) nq;have E:=bL (u.o.below dn);have G:Hid (Dk B w (wr.drewN nq)):=F.o.dk.trans (.below u.o.lt dn);clear dn u F c4 c5 J;generalize wr.drewN nq=W3 at *;go_wp2_with fail;refine (z.o W3 Uw E.o).mono ?_;clear z;rintro e w4 ⟨rfl,n,X,f⟩;rw[jN]at f;rw[jN];have Y:=bL f;have Z:=bL (G.o.trans n);clear n f E G;generalize f:((d.length+b.size+l.size-1:Nat):Int)=z at *;have t:=bL (Dq 2 T z);have n:Hid ((I_ 2::I_ T::I_ z::dD Pu.dW)=dS ⟨2,d.length+b.size-1,d.length+b.size+l.size-1,Pu.dW⟩):=by show _=_;unfold dS;simp only;rw[Zn.o,f];rfl
  rw[n.o]at t;clear n f;go_wp2_with (refine zF rfl 181 (.const (.int .i64 2)) (.tmp 31) (.tmp 32) (I_ 2) (I_ T) (I_ z) rfl rfl rfl rfl _ t.o ?_);refine (pq B g v s _ X (.slice q p r) c _ ⟨2,d.length+b.size-1,d.length+b.size+l.size-1,Pu.dW⟩ w4 Y.o (by rw[la_,jN,Pu.bT];omega)).mono ?_;rintro e w5 ⟨rfl,n,G,f⟩;rw[JN,MJ o_]at f;rw[la_,jN,Pu.bT];have E:Hid (DL B g s v d (.cat b l) q p r c down (x || Db) w (I_ ((d.length+b.size+l.size:Nat):Int)) w5):=⟨⟨G,f⟩,Z.o.trans n,by show I_ ((d.length+b.size+l.size:Nat):Int)=I_ ((d.length+(b.size+l.size+1)-1:Nat):Int);rw[(o_:d.length+(b.size+l.size+1)-1=d.length+b.size+l.size)],by show d.length+(b.size+l.size+1)<=_;omega⟩;clear n f Y Z t;generalize ((d.length+b.size+l.size:Nat):Int)=f at *;go_wp2;go_roundg (s.size-v);exact⟨v,_,_,rfl,o_,o_,E.o,L.o⟩;omega
theorem Au(s:Y_)(i:Nat)(z:∀k,i<=k->k<s.size->DOK 133 .br s k)(hs:s.size<=400):DOK 105 .pa s i:=by
 intro j re D hP hF B g d G r n t c down w h hl;have js:j<s.size:=aaS hF;cases hP with
 | @pa _ F _ a _ I _ b v=>
 have U:=b.size;simp only[aH.sz,aH.un]at U;have Q:=v.leaves.2;have O:=b.leaves.2;have A:=bL (z i dF o_ F a I b (Vh v hF) B g d G r n t c down w h hl);have Z:=bL hF;have p:=bL v;have z:=bL z;clear hF h b v;go_enter func105,ntmps105;go_wp2_with fail;refine A.o.mono ?_;clear A;rintro e H ⟨rfl,l,W,b⟩;have q:Hid (DL B g s F d a r n t c down I w (I_ ((d.length+a.size-1:Nat):Int)) H):=⟨⟨W,b⟩,l,rfl,o_⟩;clear l b;go_wp2_with fail;go_loopg [3,4] (s.size-F) (fun gk l _ v=>∃k b u,gk=s.size-k/\k<=j/\i<=k/\DL B g s k d b r n t c down u w l v/\Pu.P s (.zS b u) k j re D);exact⟨F,a,I,rfl,Q,O,q.o,p.o⟩;clear q p;obtain⟨k,b,u,rfl,kj,ik,p,v⟩:=hrel;obtain⟨L,l⟩:=p.dr;have hn:=p.n;subst hn;have ks:k<s.size:=o_;have N:=fun w=>eB s (k:Int) k rfl o_ w;have q:=mM ks;rw[<-q]at N;have k0:=jJ k;have k1:(k:Int)<s.size:=o_;have wk:=kZ k;have Y:=bQ 4 l.rb rfl;have C:=bQ 5 l.rb rfl;have y:=bL l;have X:=bL p;have lsz:=p.sz;clear p l q;generalize l:((d.length+b.size-1:Nat):Int)=T at *;have Zn:=bL l;clear l;cases v with
 | IK f=>?_
 | @zS _ E _ _ l _ _ Db _ f q p=>?_
 have e1:(Pu.dN s j == 124)=false:=by simpa using f
 generalize Pu.dN s j=pk at *;clear Z z f;rotate_left;rw[f]at N;have j2j:=p.leaves.2;have V:=q.size;have S:=q.leaves;simp only[aH.sz,aH.un,aH.lv]at V S;have x:=Vh p Z.o;have R:k+1<s.size:=by have:=Vi x;have:=aM.wO l;omega
 have J:=bL p;have A:=bL (fun H G (K:Dr B g s (k+1) (d++Pu.nodes b d.length) G (.slice r n t) c (Pu.dX n u down) H)=>z.o (k+1) o_ R E l Db q x B g _ G r n t c _ H K (by rw[jN];omega));clear f q p x;rotate_left;all_goals
  go_wp2_with fail;go_quiet (fail);have dn:=bd_ (Br_ wr.heap.size wr) nq;have p:=bL (y.o.below dn);have K:Hid (Dk B w (wr.drewN nq)):=X.o.dk.trans (.below y.o.lt dn);clear dn y X Y C N;generalize wr.drewN nq=N at *
 .go_wp2;go_ret;exact⟨by rw[Zn.o];rfl,K.o,L,p.o⟩
 .have C:=bQ 5 p.o.rb rfl;have X:=bM p.o.rb 5;have q:=gs_ N g 5 (I_ ((k:Int)+1));have x:Hid (Dr B g s (k+1) (d++Pu.nodes b d.length) L (.slice r n t) c (Pu.dX n u down) (N.setCell (a_ g 5) (I_ ((k:Int)+1)))):=p.o.fD q (p.o.rb.at (k+1));have y:=bL (K.o.trans (p.o.dk q));clear q;go_wp2_with fail;clear C X p K;generalize N.setCell (a_ g 5) (I_ ((k:Int)+1))=W4 at *;refine (A.o W4 L x.o).mono ?_;clear A;rintro e w4 ⟨rfl,C,X,q⟩;rw[jN]at q;rw[jN];have Y:=bL q;have K4:=bL (y.o.trans C);clear C q x y;generalize q:((d.length+b.size+l.size-1:Nat):Int)=C at *;have y:=bL (Dq 3 T C);have x:Hid ((I_ 3::I_ T::I_ C::dD Pu.dW)=dS ⟨3,d.length+b.size-1,d.length+b.size+l.size-1,Pu.dW⟩):=by show _=_;unfold dS;simp only;rw[Zn.o,q];rfl
  rw[x.o]at y;clear x q;go_wp2_with (refine zF rfl 181 (.const (.int .i64 3)) (.tmp 27) (.tmp 28) (I_ 3) (I_ T) (I_ C) rfl rfl rfl rfl _ y.o ?_);refine (pq B g E s _ X (.slice r n t) c _ ⟨3,d.length+b.size-1,d.length+b.size+l.size-1,Pu.dW⟩ w4 Y.o (by rw[la_,jN,Pu.bT];omega)).mono ?_;rintro e w5 ⟨rfl,x,MN,q⟩;rw[JN,MJ o_]at q;rw[la_,jN,Pu.bT];have L5:Hid (DL B g s E d (.alt b l) r n t c down (u || Db) w (I_ ((d.length+b.size+l.size:Nat):Int)) w5):=⟨⟨MN,q⟩,K4.o.trans x,by show I_ ((d.length+b.size+l.size:Nat):Int)=I_ ((d.length+(b.size+l.size+1)-1:Nat):Int);rw[(o_:d.length+(b.size+l.size+1)-1=d.length+b.size+l.size)],by show d.length+(b.size+l.size+1)<=_;omega⟩;clear x q Y K4 y;generalize ((d.length+b.size+l.size:Nat):Int)=q at *;go_wp2;go_roundg (s.size-E);exact⟨E,_,_,rfl,o_,o_,L5.o,J.o⟩;omega
theorem Le(s:Y_)(a:s.size<=400):∀i,DOK 105 .pa s i:=by
 have e:∀n i,s.size-i<=n->DOK 105 .pa s i:=by
  intro n;induction n with
  | zero=>intro i h;exact Au s i (fun k g l=>Df s k (fun b c f=>Fz s b (Od s b (fun d=>o_) a) a) a) a
  | succ n j=>intro i h;exact Au s i (fun k g l=>Df s k (fun b c f=>Fz s b (Od s b (fun d=>j (b+1) o_) a) a) a) a
 exact fun i=>e _ i dF
end Go.Proofs.YtmccnmgaoppogabGreat
