import Derived.Test.YtmccnmgaoppogabGreatuMeA
namespace Go.Proofs.YtmccnmgaoppogabGreat
open Pu
set_option linter.all false
open Go.Proofs.Tryz Tryz
set_option maxRecDepth 100000
set_option maxHeartbeats 8000000
open Go.RowKit
variable {w wr:W_} {g n:Nat} {L:List Int}
theorem LC(x:ed)(k n:Nat)(w:W_)(d:k<=16)(e:n<=50000) :
  Calls prog 122 #[.agg #[I_ x.op,I_ x.a,I_ x.b,I_ x.bH],I_ k,I_ n] w (Ai (qm k n x) w):=by
 obtain⟨c,a,b,bH⟩:=x;have fin:∀c a b bH:Int,B_ w (w.alloc (c_ #[I_ c,I_ a,I_ b,I_ bH] 50)):=fun _ _ _ _=>kM _;go_in;go_wp2;all_goals go_ret
 all_goals refine nU ?_ (fin _ _ _ _)
 all_goals unfold qm
 all_goals simp only[beq_iff_eq,ne_eq,beq_eq_false_iff_ne,decide_eq_true_eq,Bool.false_eq_true,false_iff]at *
 all_goals first | omega | skip
 go_ways
theorem BU(v:V_)(l:List Int)(n:Nat)(w:W_)(d:om w v l)(p:n<=9223372036854775807) :
  C_ 83 #[v,I_ n] w (Ai (EN l n) w):=by
 obtain⟨t,q,rfl,r,s,f⟩:=d.read;clear d;by_cases u:l.length<1
 .go_enter func83,ntmps83;go_wp2;go_ret;exact nU (eF (FH o_)) (Br_ _ _)
 by_cases x:4<l.length
 .go_enter func83,ntmps83;go_wp2;go_ret;exact nU (eF (FH o_)) (Br_ _ _)
 go_enter func83,ntmps83;go_wp2;go_loop [17] (fun i=>∃k:Nat,k<=l.length/\i=I_ k/\∀j,j<k->0<=Pu.aU l j/\Pu.aU l j<n) (fun i=>l.length-(intOf i).toNat);exact⟨0,zl_ _,rfl,fun j a=>o_⟩;obtain⟨k,y,rfl,a⟩:=hrel;have c:=bL a;clear a;by_cases a:k<l.length
 .obtain⟨b,i,rfl,j,z⟩:=f k a;clear f;cases hbel:Pu.qK (Pu.aU l k) n;all_goals
   go_wp2_with (go_at_call 120;refine (mi _ _ _).mono ?_;rintro e A ⟨rfl,rfl⟩)
  .go_ret;exact nU (eF (aaI a (zR hbel))) (Br_ _ _)
  .go_round;case rel=>exact⟨k+1,o_,by go_num,sQ c.o (yn hbel)⟩
   case measure=>simp[intOf];omega
 .go_wp2;go_ret;have:k=l.length:=o_;subst this;exact nU (uH ⟨o_,c.o⟩) (Br_ _ _)
theorem G9(v:V_)(l:List mg)(m:Nat)(w:W_)(t:jX w v l)(q:1<=m)(E:m<=4) :
  C_ 84 #[v,I_ m] w (Ai (uo l m) w):=by
 obtain⟨F,y,rfl,C,D,u⟩:=t.read;clear t;by_cases G:l.length<1
 .go_enter func84,ntmps84;go_wp2;go_ret;exact nU (eF (Dx o_)) (Br_ _ _)
 by_cases H:16<l.length
 .go_enter func84,ntmps84;go_wp2;go_ret;exact nU (eF (Dx o_)) (Br_ _ _)
 go_enter func84,ntmps84;go_wp2;go_loopw [17] (fun i wr=>∃k:Nat,k<=l.length/\i=I_ k/\B_ w wr/\∀j,j<k->uM m (Pu.rg l j)) (fun i _=>l.length-(intOf i).toNat);exact⟨0,zl_ _,rfl,Br_ _ _,fun j a=>o_⟩;obtain⟨k,I,rfl,a,b⟩:=hrel;have r:=bL b;clear b;by_cases i:k<l.length
 .obtain⟨b,f,rfl,j,e,c,d⟩:=u k i;clear u;have z:=(a.cell (p:=(a_ b (f+k*3))) j).trans e;have A:=(a.cell (p:=(a_ b (f+k*3+1))) j).trans c;have B:=(a.cell (p:=(a_ b (f+k*3+2))) j).trans d;clear e c d;go_wp2_with fail;refine (IV (Pu.rg l k) m _ q E).mono ?_;rintro e J ⟨x,rfl,c,d⟩;have s:=zH a d;clear z A B d;cases x
  .go_wp2;go_ret;exact nU (eF (Yx i (fun h=>Bool.noConfusion (c.2 h)))) s
  .have d:=bL (c.1 rfl);clear c;go_wp2;go_roundw;case rel=>exact⟨k+1,o_,by go_num,s,sQ r.o d.o⟩
   case measure=>simp[intOf];omega
 .go_wp2;go_ret;have:k=l.length:=o_;subst this;exact nU (uH ⟨o_,r.o⟩) a
theorem Iq(v:V_)(l:List ed)(m:Nat)(w:W_)(z:Code w v l)(E:m<=16) :
  C_ 85 #[v,I_ m] w (Ai (uI l m) w):=by
 obtain⟨F,B,rfl,C,D,r⟩:=z.read;clear z;by_cases G:l.length<1
 .go_enter func85,ntmps85;go_wp2;go_ret;exact nU (eF (Fs o_)) (Br_ _ _)
 by_cases H:50000<l.length
 .go_enter func85,ntmps85;go_wp2;go_ret;exact nU (eF (Fs o_)) (Br_ _ _)
 go_enter func85,ntmps85;go_wp2;go_loopw [18] (fun i wr=>∃k:Nat,k<=l.length/\i=I_ k/\B_ w wr/\∀j,j<k->qm m l.length (Pu.aO l j)) (fun i _=>l.length-(intOf i).toNat);exact⟨0,zl_ _,rfl,Br_ _ _,fun j a=>o_⟩;obtain⟨k,I,rfl,a,b⟩:=hrel;have s:=bL b;clear b;by_cases q:k<l.length
 .obtain⟨b,c,rfl,i,d,e,f,j⟩:=r k q;clear r;have y:=(a.cell (p:=(a_ b (c+k*4))) i).trans d;have u:=(a.cell (p:=(a_ b (c+k*4+1))) i).trans e;have x:=(a.cell (p:=(a_ b (c+k*4+2))) i).trans f;have A:=(a.cell (p:=(a_ b (c+k*4+3))) i).trans j;clear d e f j;go_wp2_with fail;refine (LC (Pu.aO l k) m l.length _ E o_).mono ?_;rintro e J ⟨t,rfl,d,f⟩;have j:=zH a f;clear y u x A f;cases t
  .go_wp2;go_ret;exact nU (eF (aaE q (fun h=>Bool.noConfusion (d.2 h)))) j
  .have f:=bL (d.1 rfl);clear d;go_wp2;go_roundw;case rel=>exact⟨k+1,o_,by go_num,j,sQ s.o f.o⟩
   case measure=>simp[intOf];omega
 .have u:k=l.length:=o_;subst u;obtain⟨b,c,rfl,i,d,-⟩:=r (l.length-1) o_;have y:=(a.cell (p:=⟨b,c+(l.length-1)*4,none⟩) i).trans d;clear r d;generalize d:(Pu.aO l (l.length-1)).op=x at *;have t:=bL d;clear d;by_cases d:x=4
  .have e:(x == 4)=true:=by simpa using d
   clear d;go_wp2;go_ret;exact nU (uH ⟨o_,s.o,.inl (by rw[t.o];simpa using e)⟩) a
  .have e:(x == 4)=false:=by simpa using d
   by_cases f:x=5
   .have j:(x == 5)=true:=by simpa using f
    clear d f;go_wp2;go_ret;exact nU (uH ⟨o_,s.o,.inr (by rw[t.o];simpa using j)⟩) a
   .have j:(x == 5)=false:=by simpa using f
    have A:Hid (¬(x=4\/x=5)):=by intro h;rcases h with h | h;exact d h;exact f h
    clear d f;go_wp2;go_ret;exact nU (eF (Wv (by rw[t.o];exact A.o))) a
theorem Tryz.info3 : (prog.info? 3).map (fun i=>(i.zero,i.size,i.bytes))=some (some (I_ 0),1,8):=k_
theorem XM(n:Nat):(madeCells (I_ 0).cells (n*1)).toList=bY (List.replicate n 0):=by simp only[madeCells,bY,Value.cells,Nat.mul_one,List.map_replicate];rw[List.eq_replicate_iff];simp[Nat.mod_one]
theorem LF(L:List Int)(v:Nat)(y:Int):(bY L).set v (I_ y)=bY (L.set v y):=by simp[bY,List.map_set]
def iF(w wr:W_)(g n:Nat)(L:List Int):Prop:=wr.ownsRow w.heap.size 3 1 (s_ g n n) n (bY L)
theorem iF.cell{w wr:W_}{g n:Nat}{L:List Int}(h:iF w wr g n L){v:Nat}(b:v<L.length):wr.cell? (a_ g v)=some (I_ (Pu.aU L v)):=by
 have:=h.cells (g:=g) rfl v _ (oo L v b);unfold Pu.aU;by_cases a:v=0
 .subst a;simpa [Addr.add]using this
 .simpa [Addr.add,a]using this
theorem iF.frozen{w wr:W_}{g n:Nat}{L:List Int}(h:iF w wr g n L)(v:Nat):wr.frozen? (a_ g v)=false:=
 World.ownsRow.frozenAt h v
theorem iF.store(h:iF w wr g n L)(v:Nat)(y:Int):iF w (wr.setCell (a_ g v) (I_ y)) g n (L.set v y):=by have:=(World.ownsRow.stored h v (I_ y)).1;rw[LF]at this;exact this
def Z9(l:List ed)(w:W_)(e:Ending)(w':W_):Prop:=∃g L,e=.returned (s_ g l.length l.length)/\B_ w w'/\iF w w' g l.length L/\Ic l L (Pu.tg l (List.range l.length))
theorem Fv(v:V_)(l:List ed)(w:W_)(N:Code w v l)(K:oH l)(hn:l.length<=50000) :
  Calls prog 123 #[v] w (Z9 l w):=by
 obtain⟨aS,V,E,F,G⟩:=ip_ info3;have y:=bL K;clear K;obtain⟨Z,Q,rfl,T,U,O⟩:=N.read;clear N;go_in;go_wp2_with (at_make;refine wpList_make_full _ rfl _ _ 31 rfl w.heap.size 3 aS (I_ 0) 1 underlying31 V E F _ _ _ _ l.length rfl rfl rfl rfl (by rw[G];omega) (by unfold maxLen;omega) dF ?_;intro X a d);have c:B_ w X:=(Br_ _ _).grown d dF (fun k h=>by cases h);rw[XM]at a;have b:=bL a;clear a d;go_loopw [13] (fun i wr=>∃k:Nat,k<=l.length/\i=I_ k/\B_ w wr/\∃L,iF w wr w.heap.size l.length L/\Ic l L (Pu.tg l (List.range k))) (fun i _=>l.length-(intOf i).toNat);exact⟨0,zl_ _,rfl,c,_,b.o,Wu l⟩;clear b c;obtain⟨k,hk,rfl,c,L,z,d⟩:=hrel;have f:=bL d;clear d;by_cases q:k<l.length
 .obtain⟨b,r,rfl,x,e,a,d,i⟩:=O k q;clear O;have j:=(c.cell (p:=(a_ b (r+k*4))) x).trans e;have s:=(c.cell (p:=(a_ b (r+k*4+1))) x).trans a;have t:=(c.cell (p:=(a_ b (r+k*4+2))) x).trans d;have u:=(c.cell (p:=(a_ b (r+k*4+3))) x).trans i;clear e a d i;go_wp2_with fail;refine (zu (Pu.aO l k) k _ o_ o_).mono ?_;rintro e Y ⟨rfl,a⟩;have A:=zH c a;have d:iF w Y w.heap.size l.length L:=bW (bW z ((Br_ wr.heap.size wr).alloc dF _) dF) a dF;clear j s t u a z;generalize i:Pu.aP (Pu.aO l k) (k:Int)=a;generalize j:Pu.aQ (Pu.aO l k)=s;have I:=bL i;have J:=bL j;clear i j;go_wp2_with fail;go_loopw [21] (fun j i=>∃u:Nat,u<=2/\j=I_ u/\B_ w i/\∃t,iF w i w.heap.size l.length t/\Ic l t (yt l k u)) (fun j _=>2-(intOf j).toNat);exact⟨0,o_,rfl,A,L,d,f.o⟩;clear A d f;obtain⟨u,C,rfl,j,t,i,d⟩:=hrel;have f:=bL d;clear d;have R:∀w,(Instr.index 237 (.agg #[I_ a,I_ s]) (I_ 0)).run prog w=.ok (I_ a) w:=fun _=>by kernel_rfl
  have S:∀w,(Instr.index 237 (.agg #[I_ a,I_ s]) (I_ 1)).run prog w=.ok (I_ s) w:=fun _=>by kernel_rfl
  match u,C with
  | 0,_=>
   cases hbl:Pu.qK a l.length
   .go_wp2_with (go_at_call 120;refine (mi _ _ _).mono ?_;rintro e H ⟨rfl,rfl⟩);go_roundw;case rel=>exact⟨1,o_,rfl,j,t,i,adY y.o q I.o f.o hbl⟩
    case measure=>simp[intOf]
   .have H:=f.o.1;have D:=JQ l k 0;have d:=yn hbl;have A:=f.o.bd (v:=a.toNat) o_;have W:=i.cell (v:=a.toNat) o_;have B:=i.frozen a.toNat;clear H;go_wp2_with (go_at_call 120;refine (mi _ _ _).mono ?_;rintro e H ⟨rfl,rfl⟩);go_roundw;case rel=>exact⟨1,o_,rfl,j.setCell dF _,_,i.store _ _,aaB y.o q I.o f.o hbl⟩
    case measure=>simp[intOf]
  | 1,_=>
   cases hbl:Pu.qK s l.length
   .go_wp2_with (go_at_call 120;refine (mi _ _ _).mono ?_;rintro e H ⟨rfl,rfl⟩);go_roundw;case rel=>exact⟨2,o_,rfl,j,t,i,adZ y.o q J.o f.o hbl⟩
    case measure=>simp[intOf]
   .have H:=f.o.1;have D:=JQ l k 1;have d:=yn hbl;have A:=f.o.bd (v:=s.toNat) o_;have W:=i.cell (v:=s.toNat) o_;have B:=i.frozen s.toNat;clear H;go_wp2_with (go_at_call 120;refine (mi _ _ _).mono ?_;rintro e H ⟨rfl,rfl⟩);go_roundw;case rel=>exact⟨2,o_,rfl,j.setCell dF _,_,i.store _ _,aaC J.o f.o hbl⟩
    case measure=>simp[intOf]
  | 2,_=>
   clear R S;go_wp2;go_roundw;case rel=>exact⟨k+1,o_,by go_num,j,t,i,by rw[<-Yh];exact f.o⟩
   case measure=>simp[intOf];omega
 .have a:k=l.length:=o_;subst a;go_wp2;go_ret;exact⟨_,L,rfl,c,z,f.o⟩
def mX(B:Nat)(wr:W_)(g n:Nat)(q:List Nat):Prop:=wr.ownsRow B 3 1 (s_ g q.length n) q.length (bY (Pu.jK q))
theorem N9{x:V_}{t:TypeId}(j:Nat)(u:V_)(h:[x][j]?=some u):(w.alloc (c_ #[x] t)).cell? (((a_ w.heap.size 0):Addr).add j)=some u:=by
 match j,h with
 | 0,h=>simp at h;subst h;simp[Addr.add]
theorem mX.cell{B:Nat}{wr:W_}{g n:Nat}{q:List Nat}(h:mX B wr g n q){t:Nat}(b:t<q.length):wr.cell? (a_ g t)=some (I_ ((Pu.qg q t:Nat):Int)):=by
 have:=h.cells (g:=g) rfl t _ (oo (Pu.jK q) t (by rw[ab1];exact b));have e:(Pu.jK q).getD t 0=((Pu.qg q t:Nat):Int):=ab0 q t;rw[e]at this;by_cases a:t=0
 .subst a;simpa [Addr.add]using this
 .simpa [Addr.add,a]using this
theorem mX.snoc{B:Nat}{k:Nat}{q:List Nat}{a:Int}(b:0<=a)(c:k=q.length+1)(h:wr.ownsRow B 3 1 (s_ g k n) k (bY (Pu.jK q)++[I_ a])):mX B wr g n (q++[a.toNat]):=by unfold mX;rw[XT q a b];subst c;simpa [bY]using h
def adE(L:List Int)(n:Nat)(w:W_)(e:Ending)(w':W_):Prop:=∃g,e=.returned (s_ g (Pu.fr L n).length n)/\B_ w w'/\mX w.heap.size w' g n (Pu.fr L n)
theorem Ze(r:Option Addr)(d:Nat)(L:List Int)(w:W_)(y:om w (.slice r L.length d) L)(O:L.length<=50000) :
  Calls prog 124 #[.slice r L.length d] w (adE L L.length w):=by
 obtain⟨aS,x,l,j,q⟩:=ip_ info3;obtain⟨D,t,v,F,G,z⟩:=y.read;simp only[Value.slice.injEq,true_and]at v;obtain⟨rfl,rfl⟩:=v;clear y;go_in;go_wp2_with (at_make;refine wpList_make_own _ rfl _ _ 31 rfl w.heap.size 3 aS (I_ 0) 1 underlying31 x l j _ _ _ L.length rfl rfl rfl (by rw[q];omega) (by unfold maxLen;omega) dF ?_;intro A b e);have c:B_ w A:=(Br_ _ _).grown e dF (fun k h=>by cases h);have a:Hid (mX w.heap.size A w.heap.size L.length (Pu.fr L 0)):=b;clear b e;go_loopw [3,11] (fun f i wr=>∃k:Nat,k<=L.length/\i=I_ k/\f=s_ w.heap.size (Pu.fr L k).length L.length/\B_ w wr/\mX w.heap.size wr w.heap.size L.length (Pu.fr L k)) (fun _ i _=>L.length-(intOf i).toNat);exact⟨0,zl_ _,rfl,rfl,c,a.o⟩;clear a c;obtain⟨k,N,rfl,rfl,a,hF⟩:=hrel;by_cases f:k<L.length
 .obtain⟨b,i,rfl,E,c⟩:=z k f;clear z;have K:=(a.cell (p:=(a_ b (i+k))) E).trans c;clear c;have H:=agJ L k;cases hz:(Pu.aU L k == 0)
  .go_wp2;go_roundw;case rel=>exact⟨k+1,o_,by go_num,by rw[afL L k hz],a,by rw[afL L k hz];exact hF⟩
   case measure=>simp[intOf];omega
  .have B:=bL hF;clear hF;go_wp2_with (at_builtin;refine wpList_append_fits _ rfl (.tmp 18) (.tmp 20) 31 rfl w.heap.size 3 aS 1 underlying31 x j w.heap.size (Pu.fr L k).length L.length (bY (Pu.jK (Pu.fr L k))) rfl (oa_ B.o _) (a_ wr.heap.size 0) 1 1 [I_ k] rfl rfl N9 (by intro u c;simp at c;subst c;rfl) o_ ?_;intro J u s);have e:=mX.snoc o_ rfl u;rw[tn_,<-aaT L k hz]at e;have I:B_ w J:=(a.alloc a.size _).grown s (by have:=a.size;simp;omega) (fun c h=>by simp at h;omega);have c:(Pu.fr L (k+1)).length=(Pu.fr L k).length+1:=by rw[aaT L k hz];simp
   have C:=bL c;clear u s c;go_wp2;go_roundw;case rel=>exact⟨k+1,o_,by go_num,by rw[C.o],I,e⟩
   case measure=>simp[intOf];omega
 .have b:k=L.length:=o_;subst b;go_wp2;go_ret;exact⟨_,rfl,a,hF⟩
theorem Jn{x:V_}{t:TypeId}(a:n=w.heap.size)(j:Nat)(u:V_)(h:[x][j]?=some u):(w.alloc (c_ #[x] t)).cell? (((a_ n 0):Addr).add j)=some u:=by subst a;exact N9 j u h
theorem iF.ahD(h:iF w wr g n L)(a:L.length=n):om wr (s_ g L.length n) L:=by subst a;exact vQ h rfl
theorem mX.other{B:Nat}{a m:Nat}{q:List Nat}(h:mX B wr g n q)(c:iF w wr a m L)(b:g≠a)(v:Nat)(y:V_):mX B (wr.setCell (a_ a v) y) g n q:=by refine World.ownsRow.kept h (World.ownsRow.stored c v y).2 (.inr ?_);simp[Value.ownBlock];exact b
theorem iF.lt(h:iF w wr g n L):w.heap.size<=g/\g<wr.heap.size:=ol_ h g rfl
theorem iF.grown{c:W_}{b:Nat}(h:iF w wr g n L)(d:wr.grownBy c (some b))(a:g≠b):iF w c g n L:=
 World.ownsRow.kept h d (.inr (by simp[Value.ownBlock];exact a))
theorem OE(v:V_)(l:List ed)(w:W_)(hv:Code w v l)(ht:oH l)(hn:l.length<=50000) :
  Calls prog 86 #[v] w (Ai (¬wW l) w):=by
 obtain⟨aS,hi,hz0,Y,hz2⟩:=ip_ info3;have V:=bL ht;clear ht;have HV:=bL hv;obtain⟨ao,cap,rfl,hc1,hc2,oI⟩:=hv.read;clear hv;go_in;go_wp2_with fail;refine (Fv _ l w HV.o V.o hn).mono ?_;rintro e F ⟨z,L,rfl,d,J,a⟩;have c:L.length=l.length:=a.1;have f:=J.ahD c;have q:=bL a;rw[c]at f;have b:=bL c;clear a c;go_wp2_with fail;have c:=Ze (some (a_ z 0)) l.length L F (by rw[b.o];exact f) (by rw[b.o];exact hn);rw[b.o]at c;refine c.mono ?_;rintro e w2 ⟨r,rfl,a,hF⟩;clear c f;have t:=ja d a;have f:iF w w2 z l.length L:=bW J a dF;have j:=J.lt;have hgf:F.heap.size<=r:=(ol_ hF r rfl).1;have D:r≠z:=o_;have k:=d.size;have B:w.heap.size<=z:=j.1;have hgf':w.heap.size<=r:=o_;have U:Hid (Pu.Inv l L (Pu.fr L l.length) [] []):=Xq q.o;have s:=bL hF;have i:=bL f;have c:=bL t;clear J f hF d a j k q b t;go_wp2_with fail;go_loopw [4,5] (fun f t wr=>∃(q:List Nat) (y:Nat) (X:List Int),y<=q.length/\f=s_ r q.length l.length/\t=I_ y/\B_ w wr/\iF w wr z l.length X/\mX F.heap.size wr r l.length q/\Pu.Inv l X q (q.take y) []) (fun _ t _=>l.length-(intOf t).toNat);exact⟨Pu.fr L l.length,0,L,zl_ _,rfl,rfl,c.o,i.o,s.o,U.o⟩;clear s i c U;obtain⟨q,y,X,htn,rfl,rfl,d,J,hF,f⟩:=hrel;have hql:=f.Ck;have U:=bL f;clear f;by_cases O:y<q.length
 .obtain⟨a,C⟩:=Xp U.o O;have i:=bL a;clear a U;have k:=hF.cell O;generalize b:Pu.qg q y=a at *;clear b;obtain⟨b,E,rfl,hb,j,c,f,s⟩:=oI a C;clear oI;have x:=(d.cell (p:=(a_ b (E+a*4))) hb).trans j;have A:=(d.cell (p:=(a_ b (E+a*4+1))) hb).trans c;have H:=(d.cell (p:=(a_ b (E+a*4+2))) hb).trans f;have I:=(d.cell (p:=(a_ b (E+a*4+3))) hb).trans s;clear j c f s;go_wp2_with fail;refine (zu (Pu.aO l a) a _ o_ o_).mono ?_;rintro e w3 ⟨rfl,c⟩;have G:=ja d c;have u:iF w w3 z l.length X:=bW J c dF;have t:mX F.heap.size w3 r l.length q:=bW hF c dF;clear x A H I c J hF k d;generalize c:Pu.aP (Pu.aO l a) (a:Int)=x;generalize f:Pu.aQ (Pu.aO l a)=k;have HA:=bL c;have HB:=bL f;clear c f;have W:Hid ((q.take (y+1)).length=y+1):=by show (q.take (y+1)).length=y+1;rw[List.length_take];omega
  generalize c:q.take (y+1)=T at *;clear c;go_wp2_with fail;go_loopw [4,29] (fun f j A=>∃(Z:Nat) (c:List Nat) (s:List Int),Z<=2/\j=I_ Z/\f=s_ r c.length l.length/\B_ w A/\iF w A z l.length s/\mX F.heap.size A r l.length c/\Pu.Inv l s c T (Pu.rest l a Z)) (fun _ j _=>2-(intOf j).toNat);exact⟨0,q,X,o_,rfl,rfl,G,u,t,i.o⟩;clear G u t i;obtain⟨Z,c,s,hjn,rfl,rfl,t,j,i,f⟩:=hrel;have hql':=f.Ck;have A:=bL f;clear f;have f0:∀w,(Instr.index 237 (.agg #[I_ x,I_ k]) (I_ 0)).run prog w=.ok (I_ x) w:=fun _=>by kernel_rfl
  have f1:∀w,(Instr.index 237 (.agg #[I_ x,I_ k]) (I_ 1)).run prog w=.ok (I_ k) w:=fun _=>by kernel_rfl
  match Z,hjn with
  | 0,_=>
   cases hbl:Pu.qK x l.length
   .go_wp2_with (go_at_call 120;refine (mi _ _ _).mono ?_;rintro e w' ⟨rfl,rfl⟩);go_roundw;case rel=>exact⟨1,c,s,o_,rfl,rfl,t,j,i,aeq V.o C HA.o A.o hbl⟩
    case measure=>simp[intOf]
   .have u:=A.o.len;have hab:=yn hbl;have hbd:=abu A.o (v:=x.toNat) o_;have qB:=j.cell (v:=x.toNat) o_;have N:=j.frozen x.toNat;have f:=abv V.o C HA.o A.o hbl;have H:=bL f;clear u f;cases hz:(Pu.aU s x.toNat-1 == 0)
    .go_wp2_with (go_at_call 120;refine (mi _ _ _).mono ?_;rintro e w' ⟨rfl,rfl⟩);go_roundw;case rel=>exact⟨1,c,_,o_,rfl,rfl,t.setCell B _,j.store _ _,i.other j D _ _,H.o.2 hz⟩
     case measure=>simp[intOf]
    .have f:=H.o.1 hz;have Q:=f.Ck;simp only[la_,List.length_singleton]at Q;have G:=bL f;clear f H;have f:Hid (mX F.heap.size (wr.setCell (a_ z (x.toNat)) (I_ (Pu.aU s x.toNat-1))) r l.length c):=i.other j D _ _;go_wp2_with (first | (go_at_call 120;refine (mi _ _ _).mono ?_;rintro e w' ⟨rfl,rfl⟩) | (at_builtin;refine wpList_append_fits _ rfl (.tmp 48) (.tmp 50) 31 rfl F.heap.size 3 aS 1 underlying31 hi Y r c.length l.length (bY (Pu.jK c)) rfl (oa_ f.o _) (a_ wr.heap.size 0) 1 1 [I_ x] rfl rfl (Jn i_) (by intro u I;simp at I;subst I;rfl) o_ ?_;intro w4 vM S));have I:=mX.snoc o_ rfl vM;have K:iF w w4 z l.length _:=iF.grown (oa_ (j.store x.toNat (Pu.aU s x.toNat-1)) _) S o_;have R:=t.size;have AA:B_ w w4:=((t.setCell B _).alloc (by simp;omega) _).grown S (by simp;omega) (fun u h=>by simp at h;omega);have u:Hid ((c++[x.toNat]).length=c.length+1):=by show (c++[x.toNat]).length=c.length+1;simp
     clear vM S R qB N f j i t;go_wp2;go_roundw;case rel=>exact⟨1,c++[x.toNat],_,o_,rfl,by rw[u.o],AA,K,I,G.o⟩
     case measure=>simp[intOf]
  | 1,_=>
   cases hbl:Pu.qK k l.length
   .go_wp2_with (go_at_call 120;refine (mi _ _ _).mono ?_;rintro e w' ⟨rfl,rfl⟩);go_roundw;case rel=>exact⟨2,c,s,o_,rfl,rfl,t,j,i,aer V.o C HB.o A.o hbl⟩
    case measure=>simp[intOf]
   .have u:=A.o.len;have hab:=yn hbl;have hbd:=abu A.o (v:=k.toNat) o_;have qB:=j.cell (v:=k.toNat) o_;have N:=j.frozen k.toNat;have f:=abw HB.o A.o hbl;have H:=bL f;clear u f;cases hz:(Pu.aU s k.toNat-1 == 0)
    .go_wp2_with (go_at_call 120;refine (mi _ _ _).mono ?_;rintro e w' ⟨rfl,rfl⟩);go_roundw;case rel=>exact⟨2,c,_,o_,rfl,rfl,t.setCell B _,j.store _ _,i.other j D _ _,H.o.2 hz⟩
     case measure=>simp[intOf]
    .have f:=H.o.1 hz;have Q:=f.Ck;simp only[la_,List.length_singleton]at Q;have G:=bL f;clear f H;have f:Hid (mX F.heap.size (wr.setCell (a_ z (k.toNat)) (I_ (Pu.aU s k.toNat-1))) r l.length c):=i.other j D _ _;go_wp2_with (first | (go_at_call 120;refine (mi _ _ _).mono ?_;rintro e w' ⟨rfl,rfl⟩) | (at_builtin;refine wpList_append_fits _ rfl (.tmp 48) (.tmp 50) 31 rfl F.heap.size 3 aS 1 underlying31 hi Y r c.length l.length (bY (Pu.jK c)) rfl (oa_ f.o _) (a_ wr.heap.size 0) 1 1 [I_ k] rfl rfl (Jn i_) (by intro u I;simp at I;subst I;rfl) o_ ?_;intro w4 vM S));have I:=mX.snoc o_ rfl vM;have K:iF w w4 z l.length _:=iF.grown (oa_ (j.store k.toNat (Pu.aU s k.toNat-1)) _) S o_;have R:=t.size;have AA:B_ w w4:=((t.setCell B _).alloc (by simp;omega) _).grown S (by simp;omega) (fun u h=>by simp at h;omega);have u:Hid ((c++[k.toNat]).length=c.length+1):=by show (c++[k.toNat]).length=c.length+1;simp
     clear vM S R qB N f j i t;go_wp2;go_roundw;case rel=>exact⟨2,c++[k.toNat],_,o_,rfl,by rw[u.o],AA,K,I,G.o⟩
     case measure=>simp[intOf]
  | 2,_=>
   clear f0 f1;go_wp2;go_roundw;case rel=>exact⟨c,y+1,s,(Vn A.o W.o).2,rfl,by go_num,t,j,i,(Vn A.o W.o).1⟩
   case measure=>simp[intOf];omega
 .have a:=aes V.o U.o htn O;have b:=bL a.1;have c:=a.2;clear a;go_wp2;go_ret;exact nU (by simp only[decide_eq_true_eq];rw[<-b.o]) d
theorem om.form{v:V_}{l:List Int}(h:om w v l):∃b a,v=.slice b l.length a/\l.length<=a/\a<=9223372036854775807:=by obtain⟨b,a,c,d,e,_⟩:=h.read;exact⟨b,a,c,d,e⟩
theorem jX.form{v:V_}{l:List mg}(h:jX w v l):∃b a,v=.slice b l.length a/\l.length<=a/\a<=9223372036854775807:=by obtain⟨b,a,c,d,e,_⟩:=h.read;exact⟨b,a,c,d,e⟩
theorem Code.form{v:V_}{l:List ed}(h:Code w v l):∃b a,v=.slice b l.length a/\l.length<=a/\a<=9223372036854775807:=by obtain⟨b,a,c,d,e,_⟩:=h.read;exact⟨b,a,c,d,e⟩
theorem Dc{W a:W_}(c:B_ W a):(∀b o,b<W.heap.size->a.cell? (a_ b o)=W.cell? (a_ b o))/\(∀b o,b<W.heap.size->a.frozen? (a_ b o)=W.frozen? (a_ b o)):=
 ⟨fun b _ h=>c.cell (p:=(a_ b (_))) h,fun b _ h=>c.frozen (p:=(a_ b (_))) h⟩
theorem JZ(z A y:V_)(p:lZ)(w:W_)(r:om w z p.ents)(s:jX w A p.rules)(q:Code w y p.code) :
  Calls prog 59 #[.agg #[z,A,y]] w (Ai (gu p) w):=by
 obtain⟨F,N,rfl,U,V⟩:=r.form;obtain⟨G,O,rfl,Y,Z⟩:=s.form;obtain⟨E,K,rfl,R,S⟩:=q.form;have C:=bL r;have D:=bL s;have u:=bL q;clear r s q;go_in;go_wp2_with fail;have a:=(Br_ w.heap.size w).alloc dF (c_ #[.slice F p.ents.length N,.slice G p.rules.length O,.slice E p.code.length K] 42);have i:=bL a;clear a;refine (BU _ p.ents p.code.length _ (C.o.below i.o) o_).mono ?_;rintro e w1 ⟨H,rfl,c,a⟩;have l:=zH (Br_ _ _) a;have v:=(Dc a).1;cases H
 .go_wp2;go_ret;exact nU (eF (fun h=>Bool.noConfusion (c.2 h.1))) l
 have b:=c.1 rfl;have W:=b.1;have j:=bL b;clear b c;go_wp2_with fail;have hz1:w.heap.size<w1.heap.size:=by have:=a.size;simp at this;omega
 clear a;refine (G9 _ p.rules p.ents.length _ (D.o.below l) o_ o_).mono ?_;rintro e w2 ⟨I,rfl,c,a⟩;have t:=ja l a;have x:=(Dc a).1;cases I
 .go_wp2;go_ret;exact nU (eF (fun h=>Bool.noConfusion (c.2 h.2.1))) t
 have b:=c.1 rfl;have hrl:=b.1;have k:=bL b;clear b c;go_wp2_with fail;have hz2:w.heap.size<w2.heap.size:=by have:=a.size;omega
 clear a;refine (Iq _ p.code p.rules.length _ (u.o.below t) o_).mono ?_;rintro e w3 ⟨J,rfl,c,a⟩;have f:=ja t a;have Ls:=(Dc a).1;cases J
 .go_wp2;go_ret;exact nU (eF (fun h=>Bool.noConfusion (c.2 h.2.2.1))) f
 have b:=c.1 rfl;have T:=b.1;have d:=bL b;clear b c;go_wp2_with fail;have hz3:w.heap.size<w3.heap.size:=by have:=a.size;omega
 clear a;refine (OE _ p.code _ (u.o.below f) d.o.tight o_).mono ?_;rintro e w4 ⟨c,rfl,a,b⟩;have B:=ja f b;go_wp2;go_ret;refine nU ?_ B;constructor
 .intro h;have Q:c=false:=by simpa using h
  refine⟨j.o,k.o,d.o,?_⟩;apply Classical.byContradiction;intro X;have:=a.2 X;rw[Q]at this;cases this
 .intro h;cases c
  .rfl
  .exact absurd h.2.2.2 (a.1 rfl)
end Go.Proofs.YtmccnmgaoppogabGreat
