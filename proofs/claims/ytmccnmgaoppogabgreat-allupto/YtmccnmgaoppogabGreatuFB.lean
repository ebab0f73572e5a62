import Derived.Test.YtmccnmgaoppogabGreatuF4A
namespace Go.Proofs.YtmccnmgaoppogabGreat
open Pu
set_option linter.all false
open Go.Proofs.Tryz Tryz
set_option maxRecDepth 100000
set_option maxHeartbeats 8000000
open Go.RowKit
variable {n:Nat} {ready:List Nat}
theorem aeT{w:W_}{base e size m g a:Nat}{xs:List V_}(h:w.ownsRow base e size (s_ g n a) m xs)(j:Nat):w.frozen? (a_ g j)=false:=by
 rcases h.2 with ⟨c,_⟩ | ⟨i,d,b,c,_,f,_⟩
 .cases c
 .injection c with e2
  injection e2 with e4;injection e4 with e5;subst e5;exact bM (t:=e) (xs:=b.toList) (by simpa [dh]using f) j
theorem LQ(l:List Nat)(b n:Nat):(bZ l).set b (I_ n)=bZ (l.set b n):=by unfold bZ;rw[List.map_set]
theorem ae9{c:List (Pu.aN × V_)}(h:∀t∈c,t.1.longer.length=256){p b:Nat}{q:Pu.aN × V_}(a:c[p]?=some q)(g:b<256):(Qx c).set (p*257+1+b) (I_ n)=Qx (c.set p ({ q.1 with longer:=q.1.longer.set b n },q.2)):=by
 rw[Nat.add_assoc];induction c generalizing p with
 | nil=>simp at a
 | cons z r f=>
  have e:=mU (h z (ms_ ..));cases p with
  | zero=>rw[List.getElem?_cons_zero]at a;cases a;rw[sz_,yH,yH,Nat.zero_mul,Nat.zero_add,List.set_append_left _ _ o_];congr 1;unfold oP;rw[(o_:1+b=b+1),ss_,LQ]
  | succ p=>rw[cs_]at a;rw[ss_,yH,yH,List.set_append_right _ _ o_,e,(o_:(p+1)*257+(1+b)-257=p*257+(1+b)),f (fun t d=>h t (mc_ _ d)) a]
theorem Fd.jG{B g:Nat}{ps:List Pu.aJ}{ss:List Pu.aN}{D:V_}{d n i:Nat}{f:List (Pu.aN × V_)}{W:W_}(h:Fd B g ps ss D (s_ d n i) f W){fr b m:Nat}{x:Pu.aN}(A:ss[fr]?=some x)(H:b<256) :
  (∃w,Fd B g ps (Pu.jG ss fr b m) D (s_ d n i) w (W.setCell (a_ d (fr*257+1+b)) (I_ m)))/\Sk B W (W.setCell (a_ d (fr*257+1+b)) (I_ m)):=by
 obtain⟨G,y,a,q,c,F,r,_,_,_⟩:=h.get A;cases F;have C:ss.length=f.length:=h.len.symm;have I:=gs_ W d (fr*257+1+b) (I_ m);have own:=h.own;rw[C]at own;have K:Sk B W (W.setCell (a_ d (fr*257+1+b)) (I_ m)):=Sk.row own (by have:=h.up;have:=bP h.aQ;omega) I;have L:fr<f.length:=(ge_.1 r).1;have p:∀t∈f.set fr ({ x with longer:=x.longer.set b m },.slice a q c),(t∈f\/t=({ x with longer:=x.longer.set b m },.slice a q c)):=fun t l=>List.mem_or_eq_of_mem_set l;refine⟨⟨f.set fr ({ x with longer:=x.longer.set b m },.slice a q c),?_⟩,K⟩;refine⟨?_,h.up,K.plm h.pl,?_,?_,fun t l=>?_,fun t l=>?_⟩
 .refine bU h.aQ (fun e=>?_) _ _;rcases own.2 with ⟨v,_⟩ | ⟨J,s,E,v,_,z,_⟩
  .cases v
  .cases v;have aQ:=h.aQ;unfold dh at aQ;rw[e]at aQ;rw[aQ]at z;cases z
 .rw [C,le_];have:=LZ (j:=fr*257+1+b) (u:=I_ m) own;rw[ae9 h.ln r H]at this;exact this
 .unfold Pu.jG;rw[Gu _ A,<-h.ss,List.map_set]
 .rcases p t l with k | k
  .exact K.jK (h.nx t k)
  .subst k;exact K.jK (h.nx (x,.slice a q c) (mg_ r))
 .rcases p t l with k | k
  .exact h.ln t k
  .subst k;simp only[le_];exact h.ln (x,.slice a q c) (mg_ r)
namespace Pu
theorem GA(ss:List aN)(t:List Nat):ss.length<=(iB ss t).length/\(iB ss t).length<=ss.length+1:=by
 unfold iB;split
 .omega
 .simp
theorem Ql(ss:List aN)(fr b n:Nat):(jG ss fr b n).length=ss.length:=by simp[jG]
theorem Sz(ps:List aJ)(ready:List Nat)(fr:Nat)(ss:List aN)(b:Nat):ss.length<=(oN ps ready fr ss b).length/\(oN ps ready fr ss b).length<=ss.length+1:=by unfold oN;rw[Ql];exact GA _ _
theorem zN(ps:List aJ)(ready:List Nat)(fr:Nat)(ss:List aN)(k:Nat):nJ ps ready fr ss (k+1)=oN ps ready fr (nJ ps ready fr ss k) k:=by unfold nJ;rw[List.range_succ,List.foldl_append];rfl
theorem Cj(ps:List aJ)(ready:List Nat)(fr:Nat)(ss:List aN):∀k,ss.length<=(nJ ps ready fr ss k).length/\(nJ ps ready fr ss k).length<=ss.length+k:=by
 intro k;induction k with
 | zero=>exact⟨dF,dF⟩
 | succ k a=>have:=Sz ps ready fr (nJ ps ready fr ss k) k;rw[zN];omega
def DW(n:Nat)(ss:List aN):Prop:=∀x∈ss,sJ n x.places
theorem Ya{ss:List aN}{t:List Nat}(h:DW n ss)(a:sJ n t):DW n (iB ss t):=by
 unfold iB;split
 .exact h
 .intro x b;rcases ma_.1 b with k | k
  .exact h x k
  .simp at k;subst k;exact a
theorem Ua{ss:List aN}(fr b m:Nat)(h:DW n ss):DW n (jG ss fr b m):=by
 intro x d;obtain⟨i,a⟩:=gf_ d;unfold jG at a;rw[List.getElem?_modify]at a;cases hs:ss[i]? with
 | none=>rw[hs]at a;cases a
 | some y=>
  rw[hs]at a;have c:=h y (mg_ hs);split at a
  .cases a;exact c
  .cases a;exact c
theorem XC{ps:List aJ}{fr:Nat}{ss:List aN}{b:Nat}(h:DW n ss)(a:sJ n ready):DW n (oN ps ready fr ss b):=Ua _ _ _ (Ya h (rf ps b a))
theorem Gq{ps:List aJ}{fr:Nat}{ss:List aN}(h:DW n ss)(a:sJ n ready):∀k,DW n (nJ ps ready fr ss k):=by
 intro k;induction k with
 | zero=>exact h
 | succ k b=>rw[zN];exact XC b a
end Pu
def aiD(B g:Nat)(ps:List Pu.aJ)(a:List Pu.aN)(w:W_)(e:Ending)(w':W_):Prop:=
 e=.returned (.tuple #[])/\Sk B w w'/\∃c d b,Fd B g ps a c d b w'
theorem JG(B g:Nat)(ps:List Pu.aJ)(ss:List Pu.aN)(i j:V_)(f:List (Pu.aN × V_))(J:V_)(fr:Nat)(ready:List Nat)(w:W_)(h:Fd B g ps ss i j f w)(hl:ss.length<=100)(H:ps.length<=1000)(hf:fr<ss.length)(S:fe w J ready)(R:sJ ps.length ready)(t:DW ps.length ss) :
  Calls prog 94 #[p_ g,I_ fr,J] w (aiD B g ps (nJ ps ready fr ss 256) w):=by
 have a:Hid (Sk B w w/\∃i j f,Fd B g ps (nJ ps ready fr ss 0) i j f w):=⟨Sk.refl _ _,i,j,f,h⟩;have V:B<=w.heap.size:=by have:=h.up;have:=bP h.aQ;omega
 have Y:=bL S;have D:=bL R;have Z:=bL t;clear h S R t;go_in;go_wp2_with fail;go_loopg [6,7,8] 256 (fun gk d _ _ c=>∃b:Nat,b<=256/\gk=256-b/\d=I_ b/\Sk B w c/\∃i j f,Fd B g ps (nJ ps ready fr ss b) i j f c);exact⟨0,zl_ _,rfl,rfl,a.o⟩;clear a;obtain⟨b,bl,rfl,rfl,a,N,z,y,c⟩:=hrel;have k:=bL a;have A:=bL c;clear a c;by_cases q:b<256
 .have d1:decide ((b:Int)<256)=true:=dt_ o_;have ln:=Cj ps ready fr ss b;have E:=bL (Gq (fr:=fr) (ps:=ps) Z.o D.o b);have wi:=kZ b;have rA:=bL (zN ps ready fr ss b);have C:B<=wr.heap.size:=lt_ V k.o.lo.size;have TI:=bL (rf ps b D.o);generalize hsb:nJ ps ready fr ss b=c at *;go_wp2_with fail;refine (Uo B g ps c N z y J ready b wr A.o H (k.o.jK Y.o) D.o q).mono ?_;rintro e U ⟨T,rfl,a,d⟩;have K:=bL (A.o.below a);have O:=bL (k.o.trans (.below C a));have L:Hid (fe U T (Pu.taking ps ready b)):=dH d (zl_ _);clear a d A k;have tl:=TI.o.len;go_wp2_with fail;refine (Tx B g ps c N z y T (Pu.taking ps ready b) U K.o o_ L.o o_ (fun x u=>by have:=(E.o x u).len;omega)).mono ?_;rintro e w2 ⟨rfl,s,vp2,vs2,ts2,a⟩;have Q:=bL (O.o.trans s);have W:=bL a;have nl:=GA c (Pu.taking ps ready b);obtain⟨x,u⟩:∃x,(iB c (Pu.taking ps ready b))[fr]?=some x:=⟨_,gg_ o_⟩;obtain⟨gs,cap,ax,nx,cx,ev,_,r,_,F⟩:=a.get u;subst ev;obtain⟨⟨I,l⟩,p⟩:=a.jG (m:=iV (Pu.taking ps ready b) c) u q;have X:=bL l;have S3:=bL (Q.o.trans p);have c1:=bQ 1 a.aQ rfl;have d:b<x.longer.length:=o_;have v:=r (1+b) (I_ (x.longer[b]'d:Nat)) (by
   rw[(o_:1+b=b+1)];show (bZ x.longer)[b]?=_;exact iQ (gg_ d))
  rw[<-Nat.add_assoc]at v;have frz:=aeT a.own (fr*257+1+b);generalize G:x.longer[b]'d=ov at v;clear G s a r F d u l p K O L W Q;have a:Hid (oN ps ready fr c b=Pu.jG (iB c (Pu.taking ps ready b)) fr b (iV (Pu.taking ps ready b) c)):=rfl;generalize iV (Pu.taking ps ready b) c=num at *;have d:=jJ b;have l:(b:Int)<256:=o_;have p:=jJ fr;have r:(fr:Int)<((iB c (Pu.taking ps ready b)).length:Int):=o_;go_wp2;go_roundg (256-(b+1));exact⟨b+1,o_,rfl,by go_num,S3.o,_,_,I,by rw[rA.o,a.o];exact X.o⟩;omega
 .have d1:decide ((b:Int)<256)=false:=dn_ o_;have e:b=256:=o_;subst e;go_wp2;go_end0;exact⟨rfl,k.o,_,_,_,A.o⟩
def rC(B:Nat)(W:W_)(v:V_)(ss:List Pu.aN):Prop:=∃a,W.ownsRow B 163 257 v a.length (Qx a)/\a.map (·.1)=ss/\(∀t∈a,fe W t.2 t.1.places)/\∀t∈a,t.1.longer.length=256
theorem Fd.YR{B g:Nat}{ps:List Pu.aJ}{ss:List Pu.aN}{c b:V_}{a:List (Pu.aN × V_)}{W:W_}(h:Fd B g ps ss c b a W):rC B W b ss:=⟨a,h.own,h.ss,h.nx,h.ln⟩
theorem rC.below{B:Nat}{W a:W_}{v:V_}{ss:List Pu.aN}(h:rC B W v ss)(b:B_ W a):rC B a v ss:=by obtain⟨i,c,d,e,f⟩:=h;exact⟨i,bW c b dF,d,fun t g=>(e t g).below b,f⟩
theorem yI{P:Program}(w:W_){d:Array Oper}{o:Oper}{a:Act}{K:Act->W_->Prop}{Q:Exit->Act->W_->Prop}{E:Prop}
  (B:o.guard=none) (l c:Operand) (t:TypeId) (f:o.op=Op.makeSlice t l c)
  (base:Nat) (e:TypeId) (i:TypeInfo) (z:V_) (size:Nat) (q:P.underlying t=some (.slice e)) (r:P.info? e=some i) (s:i.zero=some z) (u:i.size=size)
  (h g:IntKind) (L C:Int) (n:Nat) (D:a.eval l=.int h L) (A:a.eval c=.int g C) (y:L=(n:Int)) (v:C=(n:Int)) (j:i.bytes*n<=281474976710656) (k:n<=maxLen) (p:base<=w.heap.size)
  (x:∀w',w'.ownsRow base e size (s_ w.heap.size n n) n (madeCells z.cells (n*size)).toList->w.grownBy w' none->K (a.put o.dst (s_ w.heap.size n n)) w') :
  if Region.wanted o (yielded d a.tmps)=true then Oper.wp P o a w K Q else E:=by
 have F:Region.wanted o (yielded d a.tmps)=true:=by simp[Region.wanted,B]
 rw[if_pos F];obtain⟨w',b,G,H⟩:=run_make_full (P:=P) w base t e i z size q r s u h g n j k p;subst y;subst v;unfold Oper.wp;simp[execOp,f,D,A,b,Result.andThen];exact x w' G H
def ts0:List (Pu.aN × V_):=[(⟨[],Pu.kL⟩,n_),(⟨[],Pu.kL⟩,n_)]
theorem afU:(madeCells (Value.agg yE.toArray).cells (2*257)).toList=Qx ts0:=k_
def adD(ss:List Pu.aN)(w:W_)(e:Ending)(w':W_):Prop:=
 B_ w w'/\((ss.length<=42/\∃a,e=.returned (.tuple #[a,.bool true])/\rC w.heap.size w' a ss)\/(42<ss.length/\e=.returned (.tuple #[n_,.bool false])))
theorem wM{w w':W_}(h:w.grownBy w' none):B_ w w':=(Br_ _ _).grown h dF (fun k e=>by cases e)
namespace Pu
end Pu
theorem P5{B:Nat}{W:W_}{v:V_}{ps:List Pu.aJ}(h:DV B W v ps):DV 0 W v ps:=by obtain⟨d,a,b,c⟩:=h;exact⟨d,dH a (zl_ _),b,c⟩
theorem QC(W:W_):∀t∈ts0,fe W t.2 t.1.places:=by intro t a;simp[ts0]at a;subst a;exact fe.nil _
theorem QN:Pu.kL.length=256:=by unfold Pu.kL;rw[lp_]
theorem VQ:∀t∈ts0,t.1.longer.length=256:=by intro t a;simp[ts0]at a;subst a;exact QN
theorem aaN(B:Nat)(md mode:Int)(L c:Option Addr)(O N i d:Nat)(ls:List aD)(ps:List Pu.aJ)(w:W_)(hL:Lm B w (.slice L O N) ls)(hP:DV B w (.slice c i d) ps)(r:jh ps)(hl:ps.length<=1000)(hll:ls.length<=1000)(W:∀x∈ls,nO ps.length x.pt) :
  Calls prog 68 #[.agg #[I_ md,.slice L O N,.slice c i d],I_ mode] w (adD (qz ls ps mode) w):=by
 obtain⟨is,V,X,Y,hz2⟩:=ip_ yF;have a:=(Br_ w.heap.size w).alloc dF (c_ #[I_ md,.slice L O N,.slice c i d] 122);have D:=bL (hL.below a);have u:=bL (hP.below a);have C:=bL a;have q:Hid (dh (w.alloc (c_ #[I_ md,.slice L O N,.slice c i d] 122)) w.heap.size 122 [I_ md,.slice L O N,.slice c i d]):=hn_ _ _;have OK:=bL r;have LO:=bL W;clear hL hP r W a;go_in;go_upto_region 1 with (fail);generalize w.alloc (c_ #[I_ md,.slice L O N,.slice c i d] 122)=a at *;generalize U:w.heap.size=gT at *;go_cut [6] (fun v f=>∃g G F,v=p_ g/\B_ a f/\Fd a.heap.size g ps Qw (.slice c i d) G F f);case first=>
  have t2:a.drew.cell? (a_ gT 2)=some (.slice c i d):=bN (j:=2) q.o rfl;have T:=bP q.o;refine wd_ (S:=fun b=>b.cell? (a_ gT 2)=some (.slice c i d)) k_ t2 (fun dK=>?_);refine cB 0 ?_;refine cB 1 ?_;refine yz 2 4 (fun K p=>?_) (fun K p=>?_);focus
   refine yI _ rfl _ _ 131 rfl a.heap.size 163 is (.agg yE.toArray) 257 underlying131 V X Y _ _ _ _ 2 rfl rfl rfl rfl o_ (by unfold maxLen;omega) dF ?_;intro y f k;have b:=wM k;have e:B_ a y:=ja (Br_ a.heap.size a).drew b;have g:=bO q.o e T;have t3:=bQ 2 g rfl;rw[afU]at f;have O1:=bL f;have BA:=bL e;have z:=bL g;clear f k b e g;refine p.out _ _ t3 (fun gG=>?_);clear p K
   try simp only[oQ,Act.put]
   refine cB 3 ?_;refine fF 4 (fun K p=>?_);go_simp;have tlt:=bP z.o;have t4:=bQ 2 (cO z.o (c_ #[n_,n_] 204)) rfl
  rotate_left;focus
   go_simp;have b:B_ a (a.alloc (c_ #[n_,n_] 204)).drew:=((Br_ a.heap.size a).alloc dF _).drew;have e:Hid (dh (a.alloc (c_ #[n_,n_] 204)).drew a.heap.size 204 [n_,n_]):=hn_ a _;have z:=bL (bO q.o b T);have t3:=bQ 2 z.o rfl;have k:=bL b;clear b;refine p.out _ _ t3 (fun gG=>?_);clear p K;generalize (a.alloc (c_ #[n_,n_] 204)).drew=W1 at *
   try simp only[oQ,Act.put]
   refine fF 2 (fun K p=>?_);refine yI _ rfl _ _ 131 rfl a.heap.size 163 is (.agg yE.toArray) 257 underlying131 V X Y _ _ _ _ 2 rfl rfl rfl rfl o_ (by unfold maxLen;omega) k.o.size ?_;intro A s t;have b:=wM t;have f:=bO z.o b (bP z.o);have g:=bO e.o b (bP e.o);have t4:=bQ 2 f rfl;rw[afU]at s;have O2:=bL s;have B2:=bL (ja k.o b);have T2:=bL f;have l:=bL g;clear s t b f g k z e
  rotate_left;all_goals
   refine p.out _ _ t4 (fun lT=>?_);clear p K
   try simp only[oQ,Act.put]
  focus
   refine fF 5 (fun K p=>?_);go_simp;have t5:=bQ 2 (cO z.o (c_ #[.slice c i d,s_ a.heap.size 2 2] 204)) rfl
  rotate_left;focus
   refine cB 3 ?_;refine fF 5 (fun K p=>?_);have v:=bQ 0 l.o rfl;have E:=bQ 1 l.o rfl;have g:=bM l.o 0;have t:=bM l.o 1;have gne:gT≠a.heap.size:=o_;go_simp;have b:A.grownBy ((A.setCell (a_ a.heap.size 0) (.slice c i d)).setCell (a_ a.heap.size 1) (s_ W1.heap.size 2 2)) (some a.heap.size):=(gs_ A a.heap.size 0 _).trans (gs_ _ a.heap.size 1 _);have t5:=bQ 2 (bR T2.o b (fun e=>gne (oi_ e))) rfl
  rotate_left;all_goals
   refine p.out _ _ t5 (fun kT=>?_);clear p K;refine wpAnyH_done k_ ?_ _
  have f:=(Br_ y.heap.size y).alloc dF (c_ #[.slice c i d,s_ a.heap.size 2 2] 204);have s:Hid (Fd a.heap.size y.heap.size ps Qw (.slice c i d) (s_ a.heap.size 2 2) ts0 (y.alloc (c_ #[.slice c i d,s_ a.heap.size 2 2] 204))):=
   ⟨hn_ _ _,BA.o.size,(P5 (u.o.below BA.o)).below f,bW O1.o f dF,rfl,QC _,VQ⟩
  have BE:=bL (ja BA.o f);clear dK gG lT kT t2 t3 t4 t5 f;rotate_left;focus
   have s:Hid (Fd a.heap.size a.heap.size ps Qw (.slice c i d) (s_ W1.heap.size 2 2) ts0 ((A.setCell (a_ a.heap.size 0) (.slice c i d)).setCell (a_ a.heap.size 1) (s_ W1.heap.size 2 2))):=
    ⟨cK (cK l.o 0 _) 1 _,dF,(P5 (u.o.below B2.o)).grown l.o d_ d_ b,dG O2.o l.o d_ b,rfl,QC _,VQ⟩
   have BE:Hid (B_ a ((A.setCell (a_ a.heap.size 0) (.slice c i d)).setCell (a_ a.heap.size 1) (s_ W1.heap.size 2 2))):=B2.o.grown b B2.o.size (fun k e=>by cases e;exact dF);clear dK gG lT kT t2 t3 t4 t5 b v E g t
  all_goals
   go_wp2_with fail;go_meet;case rel=>exact⟨_,_,_,rfl,BE.o,s.o⟩
 case rest=>
  obtain⟨g,G,F,rfl,b,f⟩:=hcut;have R:w.heap.size<=a.heap.size:=by rw[U];have:=bP q.o;omega
  have t:=bL (bO q.o b (bP q.o));have k:=bL (D.o.below b);have BC:Hid (B_ w wc):=by have:=C.o;rw[<-U]at this;exact this.trans (b.mono R)
  have v:=bL f;have Z:=b.size;clear f b D u q C;have c1:=bQ 1 t.o rfl;go_wp2_with fail;refine (Wn B ps.length _ ls mode wc k.o hll hl LO.o).mono ?_;clear c1;rintro e y ⟨r1,rfl,b,q⟩;have D:=bL (v.o.below b);have I:Hid (Sk a.heap.size wc y):=.below Z b;have H:Hid (fe y r1 (jQ ls mode)):=dH q (zl_ _);have C:=bL (yM (n:=ps.length) mode LO.o);have f:Hid (DW ps.length Qw):=by intro x E;simp[Qw]at E;subst E;exact .nil _
  clear b q v k t;go_wp2_with fail;refine (JG a.heap.size g ps Qw _ G F r1 1 (jQ ls mode) y D.o d_ hl d_ H.o C.o f.o).mono ?_;rintro e A ⟨rfl,t,q⟩;have v:Hid (∃(k:Nat) (b:List Pu.aN),43=45-k/\2<=k/\k<=43/\I_ 2=I_ k/\qy ps (45-k) k b=qz ls ps mode/\Sk a.heap.size wc A/\DW ps.length b/\b.length<=298/\∃u G F,Fd a.heap.size g ps b u G F A):=
   ⟨2,_,rfl,o_,o_,rfl,rfl,I.o.trans t,Gq f.o C.o 256,by have:=(Cj ps (jQ ls mode) 1 Qw 256).2;have b:Qw.length=2:=rfl;omega,q⟩
  clear t q D I H C f;go_wp2_with fail;go_loopg [7,8] 43 (fun gk _ q f=>∃(k:Nat) (b:List Pu.aN),gk=45-k/\2<=k/\k<=43/\q=I_ k/\qy ps (45-k) k b=qz ls ps mode/\Sk a.heap.size wc f/\DW ps.length b/\b.length<=298/\∃u G F,Fd a.heap.size g ps b u G F f);exact v.o;clear v;obtain⟨k,b,rfl,k2,k43,rfl,q,t,r,sl,QW,vs1,ts1,f⟩:=hrel;have I:=bL q;have J:=bL t;have u:=bL r;have s:=bL f;have tl:=f.len;obtain⟨as1,cs1,rfl,_,_⟩:=eO f.own;have c1:=bQ 1 f.aQ rfl;rw[tl]at c1;have D:=bL (Va a.heap.size g ps b _ _ _ wr f);have H:Hid (qy ps (45-k) k b=if k<b.length/\b.length<=42 then qy ps (45-(k+1)) (k+1) (nJ ps (jq ps (qM b k)) k b 256) else b):=by show _=_;rw[show 45-k=(45-(k+1))+1 by omega];rfl
  have BLr:a.heap.size<=wr.heap.size:=lt_ Z J.o.lo.size;clear q t r f;by_cases v:k<b.length
  .have d1:=oL k b.length;go_wp2_with fail;refine D.o.mono ?_;clear D;rintro e w3 ⟨rfl,rfl⟩;by_cases t:b.length<=42
   .rw [dt_ t];have Q:Hid (qy ps (45-(k+1)) (k+1) (nJ ps (jq ps (qM b k)) k b 256)=qz ls ps mode):=by have:=H.o;rw[if_pos ⟨v,t⟩]at this;show _=_;rw[<-this];exact I.o
    obtain⟨x,E⟩:=rG b k v;have f:qM b k=x.places:=by unfold qM;rw[E]
    rw[f]at Q;obtain⟨gs,cap,ax,nx,cx,ev,_,C,hn,_⟩:=s.o.get E;rw[<-tl]at ev;cases ev;have q:=C 0 (.slice ax nx cx) rfl;rw[Nat.add_zero]at q;have XN:=bL hn;have XI:=bL (u.o x (mg_ E));have OM:=jJ k;have IC:(k:Int)<b.length:=o_;have wi:=kZ k;clear C hn E f H I;go_wp2_with fail;refine (Rl a.heap.size g ps b _ _ ts1 _ x.places w3 s.o OK.o hl XN.o XI.o).mono ?_;rintro e w4 ⟨r4,rfl,f,E⟩;have F4:=bL (s.o.below f);have S4:=bL (J.o.trans (.below BLr f));have N4:Hid (fe w4 r4 (jq ps x.places)):=dH E (zl_ _);have C:=bL (sV OK.o x.places);clear f E s J c1 q XN;go_wp2_with fail;refine (JG a.heap.size g ps b _ _ ts1 r4 k (jq ps x.places) w4 F4.o o_ hl v N4.o C.o u.o).mono ?_;rintro e w5 ⟨rfl,q,f⟩;have S5:=bL (S4.o.trans q);have E:=bL f;have O5:=bL (Gq (fr:=k) (ps:=ps) u.o C.o 256);have L5:Hid ((nJ ps (jq ps x.places) k b 256).length<=298):=by show _<=_;have:=(Cj ps (jq ps x.places) k b 256).2;omega
    clear q f F4 S4 N4 C u;go_wp2;go_roundg (45-(k+1));exact⟨k+1,_,rfl,o_,o_,by go_num,Q.o,S5.o,O5.o,L5.o,E.o⟩;omega
   .rw [dn_ t];have f:Hid (qz ls ps mode=b):=by have:=H.o;rw[if_neg (fun h=>t h.2)]at this;show _=_;rw[<-this];exact I.o.symm
    have D:=bL (Va a.heap.size g ps b _ _ _ w3 s.o);clear H I;go_wp2_with fail;refine D.o.mono ?_;clear D;rintro e w4 ⟨rfl,rfl⟩;rw[dn_ t];go_wp2;go_ret2;exact⟨BC.o.trans (J.o.lo.mono R),by rw[f.o];exact .inr ⟨o_,rfl⟩⟩
  .have d1:=nI k b.length;have f:Hid (qz ls ps mode=b):=by have:=H.o;rw[if_neg (fun h=>v h.1)]at this;show _=_;rw[<-this];exact I.o.symm
   clear H I;go_wp2_with fail;refine D.o.mono ?_;clear D;rintro e w4 ⟨rfl,rfl⟩;by_cases t:b.length<=42
   .rw [dt_ t];go_wp2;go_ret2;refine⟨BC.o.trans (J.o.lo.mono R),?_⟩;rw[f.o];refine .inl ⟨t,_,rfl,?_⟩;have:=s.o.YR;rw[tl]at this;obtain⟨q,C,E⟩:=this;exact⟨q,dH C R,E⟩
   .rw [dn_ t];go_wp2;go_ret2;exact⟨BC.o.trans (J.o.lo.mono R),by rw[f.o];exact .inr ⟨o_,rfl⟩⟩
end Go.Proofs.YtmccnmgaoppogabGreat
