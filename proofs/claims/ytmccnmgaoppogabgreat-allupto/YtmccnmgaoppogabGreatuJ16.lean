import Derived.Test.YtmccnmgaoppogabGreatuJB
namespace Go.Proofs.YtmccnmgaoppogabGreat
open Pu
set_option linter.all false
open Go.Proofs.Tryz Tryz
set_option maxRecDepth 100000
set_option maxHeartbeats 8000000
open Go.RowKit
theorem OP(x:Int):Instr.fill (fun i=>some (i*1,1)) ((Array.range (1*1)).map fun j=>((I_ 0).cells)[j % (I_ 0).cells.size]!) [(0,I_ x)]=some #[I_ x]:=k_
def afA(K:List aA)(w:W_)(e:Ending)(w':W_):Prop:=∃v,e=.returned v/\B_ w w'/\MV w.heap.size w' v K
structure Fb(w:W_)(gs cap gq:Nat)(vr vk vf v:V_)(ss:List Pu.aN)(rs:List Int)(q:iw)(K:List aA)(W:W_):Prop where
 be:B_ w W
 b:dh W w.heap.size 160 [s_ gs ss.length cap,vr]
 r:W.ownsRow w.heap.size 3 1 vr rs.length (bY rs)
 sq:dh W gq 166 [vk,vf]
 k:fe W vk q.kinds
 f:fe W vf q.firsts
 own:W.ownsRow w.heap.size 169 257 v K.length (AJ K)
section
variable {w W W':W_} {gs cap gq gK:Nat} {vr vk vf v v':V_} {ss:List Pu.aN} {rs:List Int} {q:iw} {K:List aA}
theorem Fb.below(h:Fb w gs cap gq vr vk vf v ss rs q K W)(a:B_ W W'):Fb w gs cap gq vr vk vf v ss rs q K W':=
 ⟨ja h.be a,bO h.b a (bP h.b),bW h.r a dF,bO h.sq a (bP h.sq),h.k.below a,h.f.below a,bW h.own a dF⟩
theorem Fb.grown(h:Fb w gs cap gq vr vk vf v ss rs q K W){xs:List V_}(c:dh W gK 169 xs)(d:w.heap.size<=gK)(f:∀b,v.ownBlock=some b->b≠gK)(a:W.grownBy W' (some gK)):Fb w gs cap gq vr vk vf v ss rs q K W':=
 ⟨h.be.grown a h.be.size (fun k e=>by cases e;exact d),bR h.b a (fun e=>dI h.b c d_ (oi_ e)),dG h.r c d_ a,bR h.sq a (fun e=>dI h.sq c d_ (oi_ e)),dG h.k c d_ a,dG h.f c d_ a,GK h.own (fun k e g=>f k e (oi_ g)) a⟩
theorem Fb.add(h:Fb w gs cap gq vr vk vf v ss rs q K W){k:aA}(b:W'.ownsRow w.heap.size 169 257 v' (K++[k]).length (AJ (K++[k])))(a:W.grownBy W' v.ownBlock):Fb w gs cap gq vr vk vf v' ss rs q (K++[k]) W':=
 ⟨h.be.grown a h.be.size (fun k e=>(ol_ h.own k e).1),dZ h.own h.b d_ a,fU h.r h.own d_ a,dZ h.own h.sq d_ a,fU h.k h.own d_ a,fU h.f h.own d_ a,b⟩
end
namespace Pu
def Cf(r:Int)(f:Nat->Nat)(b:Nat):aA:=⟨r,(List.range b).map f++List.replicate (256-b) 0⟩
theorem Xu(r:Int)(f:Nat->Nat):Cf r f 0=⟨r,kL⟩:=rfl
theorem abz(r:Int)(f:Nat->Nat){b:Nat}(h:b<=256):(Cf r f b).longer.length=256:=by unfold Cf;rw[la_,lm_,List.length_range,lp_];omega
theorem Xt(r:Int)(f:Nat->Nat){b:Nat}(h:b<256):(Cf r f (b+1)).longer=(Cf r f b).longer.set b (f b):=by
 unfold Cf;obtain⟨m,a⟩:∃m,256-b=m+1:=⟨256-b-1,o_⟩;rw[a,List.replicate_succ,(o_:256-(b+1)=m),List.range_succ,List.map_append];show _=((List.range b).map f++0::List.replicate m 0).set b (f b);rw[List.set_append_right _ _ i_];simp
theorem aby(rs:List Int)(ss:List aN)(q:iw)(set:Nat):Cf (rs.getD set 0) (fun b=>q.kinds.getD (qW ss set b) 0) 256=qV rs ss q set:=by unfold Cf qV;simp
theorem Sm(ls:List aD)(ss:List aN){i o:Nat}(h:(oK ss (dJ ls ss)).firsts[i]?=some o):(jW ls ss).take (i+1)=(jW ls ss).take i++[qV (dJ ls ss) ss (oK ss (dJ ls ss)) o]:=by rw[List.take_add_one];unfold jW;rw[gm_,h];rfl
theorem Qu(ss:List aN)(rs:List Int):(oK ss rs).kinds.length=ss.length/\(oK ss rs).firsts.length<=ss.length/\∀o∈(oK ss rs).firsts,o<ss.length:=by
 have a:∀(f:Nat) (q:iw),(f=0->q.kinds.length=ss.length/\q.firsts.length<=ss.length/\∀o∈q.firsts,o<ss.length)->(oh ss rs f q).kinds.length=ss.length/\(oh ss rs f q).firsts.length<=ss.length/\∀o∈(oh ss rs f q).firsts,o<ss.length:=by
  intro f;induction f with
  | zero=>intro q h;exact h rfl
  | succ f b=>
   intro q _;unfold oh;split
   .exact vJ ..
   .exact b _ (fun _=>vJ ..)
 exact a _ _ (fun h=>o_)
end Pu
theorem aeu(r:Int)(f:Nat->Nat){b:Nat}(h:b<256):(xA (Cf r f b)).set (1+b) (I_ (f b:Int))=xA (Cf r f (b+1)):=by unfold xA;rw[Nat.add_comm,ss_,Xt r f h];unfold bZ;rw[List.map_set];rfl
theorem Xv(B n gs cap:Nat)(vl:V_)(ls:List aD)(ss:List Pu.aN)(w:W_)(hL:Lm B w vl ls)(hS:rC B w (s_ gs ss.length cap) ss)(hl:ls.length<=1000)(hn:n<=1000)(Y:∀x∈ls,nO n x.pt)(Z:∀x∈ss,x.places.length<=1000)(H:∀z∈ss,∀m∈z.longer,m<ss.length)(hsl:ss.length<=1000) :
  Calls prog 49 #[vl,s_ gs ss.length cap] w (afA (jW ls ss) w):=by
 obtain⟨il,E,F,G,X⟩:=ip_ vN;have a:Hid (Fa w gs cap n_ ss ((Pu.dJ ls ss).take 0) (w.alloc (c_ #[s_ gs ss.length cap,n_] 160))):=⟨kM _,hn_ _ _,iR _ _ _ _⟩;have HL:=bL hL;have HS:=bL hS;have OK:=bL Y;have HPL:=bL Z;have Ku:=bL H;clear hL hS Y Z H;go_in;go_wp2_with fail;go_loopg [7,19] ss.length (fun gk _ b d=>∃(k:Nat) (vr:V_),k<=ss.length/\gk=ss.length-k/\b=I_ k/\Fa w gs cap vr ss ((Pu.dJ ls ss).take k) d);exact⟨0,_,zl_ _,rfl,rfl,a.o⟩;clear a;obtain⟨k,vr,kl,rfl,rfl,hF⟩:=hrel;by_cases H:k<ss.length
 .have d1:=oL k ss.length;have wi:=kZ k;have OM:=jJ k;have IC:(k:Int)<ss.length:=o_;obtain⟨x,I⟩:=rG ss k H;have hxl:=HPL.o x (mg_ I);have TK:=bL (Mr ls ss I);have RL:((Pu.dJ ls ss).take k).length<=1000:=by rw[List.length_take];omega
  generalize (Pu.dJ ls ss).take k=rs at *;generalize hfr:gX ls x.places=fr at *;obtain⟨gs',cap',A,nx,D,ev,b,a,hlg⟩:=(HS.o.below hF.be).get I;cases ev;obtain⟨ar,cr,rfl,_,_⟩:=eO hF.r;have zv:=Kb;have d:Hid (dh (wr.alloc (c_ yE.toArray 163)) wr.heap.size 163 yE):=hn_ _ _;have J:(oP (x,.slice A nx D)).length=257:=mU hlg;have C:=bL (pO (oP (x,.slice A nx D)) d.o (by rw[qf,J]));have p:B_ wr ((wr.alloc (c_ yE.toArray 163)).setCells wr.heap.size 0 (oP (x,.slice A nx D))):=lh (g:=wr.heap.size) dF _ 0 _ ((Br_ wr.heap.size wr).alloc dF _);have c:=bL (hF.below p);have i:=bL (a.below p);have e:=bL ((HL.o.below hF.be).below p);have L:=bL b;have Q:Hid (wr.heap.size≠w.heap.size):=by have:=bP hF.b;show _≠_;omega
  clear b a hF p;go_upto_region 5 with (first | (refine wl_ rfl 163 (.tmp 21) rfl gs (k*257) rfl _ _ L.o underlying163 rfl (by rw[J];exact Bf) ?_) | (refine ws_ rfl 163 (.tmp 7) (.tmp 22) rfl wr.heap.size 0 (oP (x,.slice A nx D)).toArray rfl rfl (by have:=mq d.o;rw[qf]at this;simpa [J]using this) (by simp only[List.size_toArray,J];exact Bf) (oc_ (Hm rfl)) ?_));clear L d;generalize (wr.alloc (c_ yE.toArray 163)).setCells wr.heap.size 0 (oP (x,.slice A nx D))=R at *;generalize wr.heap.size=gx at *;have bd:B_ R R.drew:=(Br_ _ _).drew;have FD:=bL (c.o.below bd);have r:=bL (bO C.o bd (bP C.o));have O:Hid (∀W',B_ R.drew W'->C_ 69 #[vl,.slice A nx D] W' (mY (I_ fr) W')):=fun W' T=>by have:=Iz B n vl (.slice A nx D) ls x.places W' ((e.o.below bd).below T) ((i.o.below bd).below T) hl hn OK.o hxl;rw[hfr]at this;exact this
  have S1:R.drew.cell? (a_ gx 0)=some (.slice A nx D):=bN (j:=0) r.o rfl;have l:=bQ 1 FD.o.b rfl;clear bd c C i e;refine wd_ (S:=fun a=>a.cell? (a_ gx 0)=some (.slice A nx D)) k_ S1 (fun i=>?_);generalize R.drew=WD at *;refine cB 0 ?_;refine cB 2 ?_;refine cB 3 ?_;refine cB 4 ?_;refine yz 1 5 (fun K a=>?_) (fun K a=>?_);focus
   go_simp;refine a.out _ _ (i) (fun i=>?_);clear a K
   try simp only[oQ,Act.put]
   refine fF 5 (fun K a=>?_)
  rotate_left;rotate_left;all_goals
   go_simp;refine (O.o _ (Br_ _ _)).mono ?_;rintro e c ⟨rfl,d⟩;have F3:=bL (FD.o.below d);have p:=bL (bO r.o d (bP r.o));have s:B_ c (c.alloc (c_ #[I_ fr] 3)):=kM _;have b:=bL (F3.o.below s);have f:=bL (bO p.o s (bP p.o));have c3:=bQ 1 F3.o.b rfl;have c4:=bQ 1 b.o.b rfl;have y:Hid (w.heap.size<=(c.alloc (c_ #[I_ fr] 3)).heap.size):=b.o.be.size;clear d s;refine a.out _ _ (bN (j:=0) p.o rfl) (fun i=>?_);clear a K
   try simp only[oQ,Act.put]
  .refine fF 6 (fun K a=>?_);refine fG 31 3 0 (.tmp 28) (I_ fr) rfl rfl #[I_ fr] il _ 1 underlying31 E F G o_ o_ (OP _) ?_;refine a.out _ _ (bN (j:=0) f.o rfl) (fun i=>?_);clear a K
   try simp only[oQ,Act.put]
   refine fF 7 (fun K a=>?_);refine sa_ _ r_ _ _ _ r_ w.heap.size 3 il _ 1 8 underlying31 E F G X rfl o_ (.slice ar rs.length cr) rs.length (bY rs) r_ b.o.r (a_ c.heap.size 0) 1 1 [I_ fr] r_ rfl (World.news_of_block (cs:=#[I_ fr]) (t:=3) (fr:=(0,0)) (hn_ _ _)) (fun z d=>by simp at d;rw[d];rfl) o_ (by unfold maxLen;omega) o_ y.o (c.heap.size+1) i_ ?_;intro V U w5 T C d s;clear d s;have N:=dZ b.o.r b.o.b d_ C;have d:=dZ b.o.r f.o d_ C;refine a.out _ _ (bN (j:=0) d rfl) (fun i=>?_);have k5:=bQ 1 N rfl;have Oh:=bM N 1;clear a K
   try simp only[oQ,Act.put]
   refine cB 8 ?_;refine fF 9 (fun K a=>?_);go_simp;have u:=gs_ w5 w.heap.size 1 (s_ V (rs.length+1) U);have s:=bR d u (fun e=>Q.o (oi_ e));refine a.out _ _ (bN (j:=0) s rfl) (fun i=>?_);clear a K;refine wpAnyH_done k_ ?_ _;have L:=bL (b.o.add T C);clear N d s k5 Oh T C u F3 b p f c3 c4 y FD r l S1 O;generalize w5.setCell (a_ w.heap.size 1) (s_ V (rs.length+1) U)=d at *;go_wp2;go_roundg (ss.length-(k+1));exact⟨k+1,_,o_,rfl,by go_num,by rw[TK.o];exact L.o⟩;omega
  .refine yz 1 6 (fun K a=>?_) (fun K a=>?_);focus
    go_simp;refine a.out _ _ (i) (fun i=>?_);clear a K
    try simp only[oQ,Act.put]
    refine fF 6 (fun K a=>?_)
   rotate_left;rotate_left;all_goals
    refine fG 31 3 0 (.tmp 28) (I_ fr) rfl rfl #[I_ fr] il _ 1 underlying31 E F G o_ o_ (OP _) ?_;refine a.out _ _ (bN (j:=0) f.o rfl) (fun i=>?_)
   rotate_left;focus
    clear a K
    try simp only[oQ,Act.put]
    refine fF 1 (fun K a=>?_);go_simp;refine a.out _ _ (i) (fun i=>?_)
   all_goals
    clear a K
    try simp only[oQ,Act.put]
    refine fF 7 (fun K a=>?_);refine sa_ _ r_ _ _ _ r_ w.heap.size 3 il _ 1 8 underlying31 E F G X rfl o_ (.slice ar rs.length cr) rs.length (bY rs) r_ b.o.r (a_ c.heap.size 0) 1 1 [I_ fr] r_ rfl (World.news_of_block (cs:=#[I_ fr]) (t:=3) (fr:=(0,0)) (hn_ _ _)) (fun z d=>by simp at d;rw[d];rfl) o_ (by unfold maxLen;omega) o_ y.o (c.heap.size+1) i_ ?_;intro V U w5 T C d s;clear d s;have N:=dZ b.o.r b.o.b d_ C;have d:=dZ b.o.r f.o d_ C;refine a.out _ _ (bN (j:=0) d rfl) (fun i=>?_);have k5:=bQ 1 N rfl;have Oh:=bM N 1;clear a K
    try simp only[oQ,Act.put]
    refine cB 8 ?_;refine fF 9 (fun K a=>?_);go_simp;have u:=gs_ w5 w.heap.size 1 (s_ V (rs.length+1) U);have s:=bR d u (fun e=>Q.o (oi_ e));refine a.out _ _ (bN (j:=0) s rfl) (fun i=>?_);clear a K;refine wpAnyH_done k_ ?_ _;have L:=bL (b.o.add T C);clear N d s k5 Oh T C u F3 b p f c3 c4 y FD r l S1 O;generalize w5.setCell (a_ w.heap.size 1) (s_ V (rs.length+1) U)=d at *;go_wp2;go_roundg (ss.length-(k+1));exact⟨k+1,_,o_,rfl,by go_num,by rw[TK.o];exact L.o⟩;omega
 .have d1:=nI k ss.length;have L:(Pu.dJ ls ss).take k=Pu.dJ ls ss:=List.take_of_length_le (by rw[Pu.lH];omega);rw[L]at hF;have RN:=bL (Pu.lH ls ss);have D:Hid (jW ls ss=(oK ss (Pu.dJ ls ss)).firsts.map (qV (Pu.dJ ls ss) ss (oK ss (Pu.dJ ls ss)))):=rfl;have KT:=bL (fun (i o:Nat) (h:(oK ss (Pu.dJ ls ss)).firsts[i]?=some o)=>Sm ls ss h);have Q:=bL (Qu ss (Pu.dJ ls ss));have O:=bL (acA 0 w.heap.size gs cap vr ss (Pu.dJ ls ss) wr (hF.md (YT (HS.o.below hF.be)) RN.o) Ku.o hsl);generalize Pu.dJ ls ss=rs at *;have y:=bL hF;clear hF L;go_wp2_with fail;refine O.o.mono ?_;clear O;rintro e c ⟨v1,v2,rfl,d,a,u,_⟩;generalize oK ss rs=q at *;obtain⟨f,l,rfl,_,_⟩:=eO a;obtain⟨s,r,rfl,_,_⟩:=eO u;have A:B_ c (c.alloc (c_ #[.slice f q.kinds.length l,.slice s q.firsts.length r] 166)):=kM _;have b:=bL ((y.o.below d).below A);have p:Hid (dh (c.alloc (c_ #[.slice f q.kinds.length l,.slice s q.firsts.length r] 166)) c.heap.size 166 [.slice f q.kinds.length l,.slice s q.firsts.length r]):=hn_ _ _;have J:Hid (fe (c.alloc (c_ #[.slice f q.kinds.length l,.slice s q.firsts.length r] 166)) (.slice f q.kinds.length l) q.kinds):=dH (bW a A dF) (zl_ _);have i:Hid (fe (c.alloc (c_ #[.slice f q.kinds.length l,.slice s q.firsts.length r] 166)) (.slice s q.firsts.length r) q.firsts):=dH (bW u A dF) (zl_ _);clear y d a u A;go_upto_region 8 with (fail);generalize c.alloc (c_ #[.slice f q.kinds.length l,.slice s q.firsts.length r] 166)=W4 at *;generalize c.heap.size=gq at *;have L:=bQ 0 p.o rfl;have N:=bQ 1 p.o rfl;obtain⟨ik,O,R,U,hk2⟩:=ip_ Ey;obtain⟨W5,C,y,u⟩:=run_make_own (P:=prog) W4 w.heap.size 132 169 ik _ 257 underlying132 O R U .i64 .i64 q.firsts.length (by rw[hk2];have:=Q.o.2.1;omega) (by unfold maxLen;have:=Q.o.2.1;omega) b.o.be.size;have d:=wM u;have a:Hid (Fb w gs cap gq vr (.slice f q.kinds.length l) (.slice s q.firsts.length r) (s_ W4.heap.size 0 q.firsts.length) ss rs q ((jW ls ss).take 0) W5):=by have A:=b.o.below d;exact⟨A.be,A.b,A.r,bO p.o d (bP p.o),J.o.below d,i.o.below d,by rw[List.take_zero];exact y⟩
  have y0:=bQ 0 a.o.sq rfl;have I:=bQ 1 a.o.sq rfl;clear b p J i y u d;go_wp2_with fail;clear L N y0 I C;generalize W4.heap.size=g9 at *;go_loopg [9,11,12,41] q.firsts.length (fun gk b _ _ p d=>∃(i:Nat) (v:V_),i<=q.firsts.length/\gk=q.firsts.length-i/\p=I_ i/\v=b/\Fb w gs cap gq vr (.slice f q.kinds.length l) (.slice s q.firsts.length r) v ss rs q ((jW ls ss).take i) d);exact⟨0,_,zl_ _,rfl,rfl,rfl,a.o⟩;clear a;obtain⟨i,v,il,rfl,rfl,rfl,hF⟩:=hrel;have KLE:((jW ls ss).take i).length<=1000:=by have:=Q.o.2.1;rw[D.o,List.length_take,lm_];omega
  by_cases hi:i<q.firsts.length
  .have d2:=oL i q.firsts.length;have wi:=kZ i;have ii0:=jJ i;have ii1:(i:Int)<q.firsts.length:=o_;obtain⟨o,y⟩:=rG q.firsts i hi;have ol:=Q.o.2.2 o (mg_ y);have KN:=bL (KT.o i o y);generalize (jW ls ss).take i=K at *;obtain⟨gf,ef,_,N⟩:=hF.f.some o_;subst ef;have T:=N i o y;obtain⟨gr,cr,er,_,_⟩:=dL hF.r (by rw[RN.o];omega);subst er;obtain⟨a,u⟩:∃z,rs[o]?=some z:=⟨_,gg_ (by rw[RN.o];exact ol)⟩;have r1:=bV hF.r (show (bY rs)[o]?=some (I_ a) by simp[bY,u]);have RA:Hid (rs.getD o 0=a):=by show _=_;rw[gd_,u];rfl
   have io0:=jJ o;have io1:(o:Int)<rs.length:=by have:=RN.o;omega
   have io2:(o:Int)<ss.length:=o_;have V:=bQ 1 hF.b rfl;have I:=bQ 1 hF.sq rfl;have A:=bL (abA a);have zk:=abB;rw[<-aet]at A;have d:Hid (dh (wr.alloc (c_ kdZ.toArray 169)) wr.heap.size 169 kdZ):=hn_ _ _;have J:(xA ⟨a,Pu.kL⟩).length=257:=pR QN;have C:=bL (pO (xA ⟨a,Pu.kL⟩) d.o (by rw[wN,J]));have p:B_ wr ((wr.alloc (c_ kdZ.toArray 169)).setCells wr.heap.size 0 (xA ⟨a,Pu.kL⟩)):=lh (g:=wr.heap.size) dF _ 0 _ ((Br_ wr.heap.size wr).alloc dF _);have L:=bL (hF.below p);have NE6:Hid (∀b,v.ownBlock=some b->b≠wr.heap.size):=fun b e=>by have:=(ol_ hF.own b e).2;omega
   have GL6:Hid (w.heap.size<=wr.heap.size):=hF.be.size;clear hF N p y u;go_upto_region 13 with (first | (refine pG rfl 169 0 (.tmp 49) (I_ a) rfl rfl _ A.o ?_) | (refine ws_ rfl 169 (.tmp 12) (.tmp 50) rfl wr.heap.size 0 (xA ⟨a,Pu.kL⟩).toArray rfl rfl (by have:=mq d.o;rw[wN]at this;simpa [J]using this) (by simp only[List.size_toArray,J];exact LH) (oc_ (Vo _)) ?_));clear d T r1 V I A;generalize (wr.alloc (c_ kdZ.toArray 169)).setCells wr.heap.size 0 (xA ⟨a,Pu.kL⟩)=W6 at *;generalize wr.heap.size=gK at *;obtain⟨x,I⟩:=rG ss o ol;have d:=bL ((HS.o.below L.o.be).aeD I);have xl:=d.o.2.1;have LGX:Hid (∀(b p:Nat),x.longer[b]?=some p->qW ss o b=p):=fun b p N=>by unfold qW;rw[I];simp[gd_,N]
   have XLT:=bL (Ku.o x (mg_ I));have y:=bL Q.o.1;clear I;go_upto_region 14 with (refine wl_ rfl 161 (.tmp 54) rfl gs (o*257+1) rfl _ _ d.o.1 underlying161 rfl (by rw[iE,xl];kernel_rfl) ?_);clear d;go_loopg [13,14,56] 256 (fun u _ _ p d=>∃(b:Nat),b<=256/\u=256-b/\p=I_ b/\Fb w gs cap gq (s_ gr rs.length cr) (.slice f q.kinds.length l) (s_ gf q.firsts.length r) v ss rs q K d/\dh d gK 169 (xA (Cf a (fun b=>q.kinds.getD (qW ss o b) 0) b)));exact⟨0,zl_ _,rfl,rfl,L.o,by rw[Xu];exact C.o⟩;clear L C;obtain⟨b,bl,rfl,rfl,hF,u⟩:=hrel;by_cases T:b<256
   .have d3:decide ((b:Int)<256)=true:=dt_ o_;have wb:=kZ b;have ib0:=jJ b;have ib1:(b:Int)<256:=o_;obtain⟨p,N⟩:=rG x.longer b;have pl:=XLT.o p (mg_ N);have ip0:=jJ p;have ip1:(p:Int)<q.kinds.length:=by have:=y.o;omega
    obtain⟨gk,L,_,kc⟩:=hF.k.some (by have:=y.o;omega);subst L;obtain⟨I,A⟩:∃z,q.kinds[p]?=some z:=⟨_,gg_ (by have:=y.o;omega)⟩;have k1:=kc p I A;have y0:=bQ 0 hF.sq rfl;have xc:(bZ x.longer).toArray[b]?=some (I_ p):=by rw[List.getElem?_toArray];exact iQ N
    have hix:=zA _ b _ T xc;have V:Hid (q.kinds.getD (qW ss o b) 0=I):=by show _=_;rw[LGX.o b p N,gd_,A];rfl
    have D:=bL (aeu a (fun b=>q.kinds.getD (qW ss o b) 0) T);have C:=abz a (fun b=>q.kinds.getD (qW ss o b) 0) bl;generalize Cf a (fun b=>q.kinds.getD (qW ss o b) 0) b=ku at *;obtain⟨z,d⟩:∃z,(xA ku)[1+b]?=some z:=⟨_,gg_ (by rw[pR C];omega)⟩;have s1:=bN u d;have s2:=bM u (1+b);have hg:=gs_ wr gK (1+b) (I_ I);have F7:=bL (hF.grown u GL6.o NE6.o hg);have B7:Hid (dh (wr.setCell (a_ gK (1+b)) (I_ I)) gK 169 (xA (Cf a (fun b=>q.kinds.getD (qW ss o b) 0) (b+1)))):=by have:=cK u (1+b) (I_ I);rw[<-D.o,V.o];exact this
    clear hF u kc N A xc pl hg D V d C;go_wp2;go_roundg (256-(b+1));exact⟨b+1,o_,rfl,by go_num,F7.o,B7.o⟩;omega
   .have d3:decide ((b:Int)<256)=false:=dn_ o_;have eb:b=256:=o_;subst eb;rw[<-RA.o,aby]at u;rw[<-RA.o]at *;have I:(qV rs ss q o).longer.length=256:=by simp[qV]
    generalize qV rs ss q o=p at *;have N:(xA p).length=257:=pR I;have L:=bL (eQ u);have A:B_ wr (wr.alloc (c_ (xA p).toArray 169)):=kM _;have V:=bL (hF.below A);have NB:Hid (dh (wr.alloc (c_ (xA p).toArray 169)) wr.heap.size 169 (xA p)):=hn_ _ _;have C:Hid (w.heap.size<=(wr.alloc (c_ (xA p).toArray 169)).heap.size):=V.o.be.size;clear hF u A;go_upto_region 19 with (first | (refine wl_ rfl 169 (.tmp 12) rfl gK 0 rfl _ _ L.o underlying169 rfl (by rw[N];exact LH) ?_) | (refine Ib rfl 132 169 (.tmp 70) (xA p) rfl rfl ik kdZ 257 underlying132 O R U wN N o_ o_ ?_) | (at_builtin;refine CJ rfl (.tmp 69) (.tmp 71) rfl w.heap.size v K rfl V.o.own wr.heap.size p rfl NB.o I KLE C.o ?_;intro v9 w9 d A));have F9:=bL (V.o.add d A);clear d A V NB C L;go_wp2;go_roundg (q.firsts.length-(i+1));exact⟨i+1,v9,o_,rfl,by go_num,rfl,by rw[KN.o];exact F9.o⟩;omega
  .have d2:=nI i q.firsts.length;have d:(jW ls ss).take i=jW ls ss:=List.take_of_length_le (by rw[D.o,lm_];omega);rw[d]at hF;have b:Hid (∀k∈jW ls ss,k.longer.length=256):=fun k a=>by rw[D.o]at a;obtain⟨o,_,rfl⟩:=List.mem_map.1 a;simp[qV]
   have a:Hid (afA (jW ls ss) w (.returned v) wr):=⟨v,rfl,hF.be,hF.own,b.o⟩;clear hF;go_wp2;go_ret;exact a.o
end Go.Proofs.YtmccnmgaoppogabGreat
