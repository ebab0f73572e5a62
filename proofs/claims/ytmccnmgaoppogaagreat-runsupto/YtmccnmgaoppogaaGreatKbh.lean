import Derived.Test.YtmccnmgaoppogaaGreatSS
import Derived.Laws.BytesArg
namespace Go.Proofs.YtmccnmgaoppogaaGreat
open Pu
set_option linter.all false
set_option maxRecDepth 100000
set_option maxHeartbeats 8000000
open Go.RowKit
variable {B b gr gs n:Nat} {jE jP v vc ve vr:V_} {rest:List V_} {t:TypeId} {w:W_} {xs:List Int}
namespace T
def Lists (W:W_) (p:oC) (ve _vr _vc:V_):Prop:=∃all g,ve=p_ g/\p=lS all/\Ru W all g/\∀j,j<Pu.aV all->(fZ all j).length<=42
theorem Lists.below {W W':W_} {p:oC} {ve vr vc:V_} (h:Lists W p ve vr vc) (hb:B_ W W'):Lists W' p ve vr vc:=by obtain⟨all,g,h1,h2,h3,h4⟩:=h;exact⟨all,g,h1,h2,h3.below hb,h4⟩
theorem Lists.on {W W':W_} {p:oC} {ve vr vc:V_} {go t:Nat} {ys:List V_} (h:Lists W p ve vr vc) (hb:dh W go t ys) (n1:t≠99) (n2:t≠161) (n3:t≠101) (hg:W.grownBy W' (some go)):Lists W' p ve vr vc:=by obtain⟨all,g,h1,h2,h3,h4⟩:=h;exact⟨all,g,h1,h2,h3.on hb n1 n2 n3 hg,h4⟩
def jS (E:bH) (ve _vr _vc:V_) (rest:List V_):List V_:=[n_,n_,n_,ve,I_ E.most,I_ E.depth,.string E.s,.bool E.ended]++rest
def lL (gs:Nat) (C:bI) (jP jE:V_):List V_:=[p_ gs,I_ C.pos,I_ C.line,I_ C.iH,I_ C.mode,jP,I_ 0,jE,I_ C.err]
structure RM (W:W_) (gr gs:Nat) (E:bH) (ve vr vc:V_) (rest:List V_) (C:bI) (jP jE:V_):Prop where
 fA:dh W gr 218 (lL gs C jP jE)
 scn:dh W gs 133 (jS E ve vr vc rest)
 l:Lists W E.p ve vr vc
theorem RM.ne {W:W_} {E:bH} {C:bI} (h:RM W gr gs E ve vr vc rest C jP jE):gs≠gr:=by intro e;have h1:=h.fA;have h2:=h.scn;rw [e] at h2;unfold dh at h1 h2;rw [h1] at h2;simp at h2
theorem RM.below {W W':W_} {gr gs:Nat} {E:bH} {ve vr vc:V_} {rest:List V_} {C:bI} {jP jE:V_} (h:RM W gr gs E ve vr vc rest C jP jE) (hb:B_ W W'):RM W' gr gs E ve vr vc rest C jP jE:=
 ⟨bN h.fA hb (bO h.fA),bN h.scn hb (bO h.scn),h.l.below hb⟩
theorem RM.set {W:W_} {gr gs:Nat} {E:bH} {ve vr vc:V_} {rest:List V_} {C D:bI} {jP jE acW Ol:V_} (h:RM W gr gs E ve vr vc rest C jP jE) (j:Nat) (u:V_) (he:(lL gs C jP jE).set j u=lL gs D acW Ol):RM (W.setCell (a_ gr j) u) gr gs E ve vr vc rest D acW Ol:=
 ⟨by rw [<-he];exact cO h.fA j u,dB h.scn h.ne _ _,h.l.on h.fA (by decide) (by decide) (by decide) (gs_ W gr j u)⟩
theorem RM.MN {W:W_} {E:bH} {C D:bI} (h:RM W gr gs E ve vr vc rest C jP jE) (he:lL gs C jP jE=lL gs D jP jE):RM W gr gs E ve vr vc rest D jP jE:=
 ⟨by rw [<-he];exact h.fA,h.scn,h.l⟩
theorem RM.o {W:W_} {go:Nat} {ys:List V_} {E:bH} {C:bI} (h:RM W gr gs E ve vr vc rest C jP jE) (hb:dh W go t ys) (h1:t≠99) (h2:t≠161) (h3:t≠101) (h4:gr≠go) (h5:gs≠go) (j:Nat) (u:V_):RM (W.setCell (a_ go j) u) gr gs E ve vr vc rest C jP jE:=
 ⟨dB h.fA h4 _ _,dB h.scn h5 _ _,h.l.on hb h1 h2 h3 (gs_ W go j u)⟩
def nx (E:bH) (at' looked:Int):Int:=if at'+looked<E.s.size then (if looked=E.most then 3 else 0) else if E.ended then 2 else 1
theorem ZH (gs:Nat) (E:bH) (ve vr vc:V_) (rest:List V_) (at' looked:Int) (W:W_) (h:dh W gs 133 (jS E ve vr vc rest)) (h0:0<=at'/\at'<=1099511627776) (h1:0<=looked/\looked<=64) (_hs:E.s.size<=1099511627776) :
  C_ 148 #[p_ gs,I_ at',I_ looked] W (sN (I_ (nx E at' looked)) W):=by
 have c4:=bP 4 h rfl;have c6:=bP 6 h rfl;have c7:=bP 7 h rfl;have w1:=xF (at'+looked);clear h;by_cases a1:at'+looked<E.s.size
 .by_cases a2:looked=E.most
  focus
   have e:nx E at' looked=3:=by unfold nx;rw [if_pos a1,if_pos a2]
   have d2:(looked == E.most)=true:=by simpa using a2
  rotate_left
  focus
   have e:nx E at' looked=0:=by unfold nx;rw [if_pos a1,if_neg a2]
   have d2:(looked == E.most)=false:=by simpa using a2
  rotate_left
  all_goals
   have d1:decide (at'+looked<(E.s.size:Int))=true:=dt_ a1;rw [e]
  focus clear a2 e
  rotate_left
  focus clear e
  all_goals
   go_enter Tryz.func148,Tryz.ntmps148;go_wp2;go_ret;exact⟨rfl,rfl⟩
 .have d1:decide (at'+looked<(E.s.size:Int))=false:=dn_ a1;cases hE:E.ended
  focus have e:nx E at' looked=1:=by unfold nx;rw [if_neg a1,hE];rfl
  rotate_left
  focus have e:nx E at' looked=2:=by unfold nx;rw [if_neg a1,hE];rfl
  all_goals
   rw [hE] at c7;rw [e];clear e;go_enter Tryz.func148,Tryz.ntmps148;go_wp2;go_ret;exact⟨rfl,rfl⟩
end T
theorem Mv (x:Int):Instr.fill (fun i=>some (i*1,1)) ((Array.range (1*1)).map fun j=>((I_ 0).cells)[j % (I_ 0).cells.size]!) [(0,I_ x)]=some #[I_ x]:=by kernel_rfl
def ada (K:List aA) (w:W_) (e:Ending) (w':W_):Prop:=∃v,e=.returned v/\B_ w w'/\Kk w.heap.size w' v K
structure Fb (w:W_) (gs cap gq:Nat) (vr vk vf v:V_) (ss:List Pu.aN) (rs:List Int) (q:gG) (K:List aA) (W:W_):Prop where
 be:B_ w W
 b:dh W w.heap.size 139 [s_ gs ss.length cap,vr]
 r:W.ownsRow w.heap.size 3 1 vr rs.length (bY rs)
 sq:dh W gq 145 [vk,vf]
 k:ed W vk q.kinds
 f:ed W vf q.firsts
 own:W.ownsRow w.heap.size 148 257 v K.length (zC K)
section
variable {w W W':W_} {gs cap gq gK:Nat} {vr vk vf v v':V_} {ss:List Pu.aN} {rs:List Int} {q:gG} {K:List aA}
theorem Fb.below (h:Fb w gs cap gq vr vk vf v ss rs q K W) (hb:B_ W W'):Fb w gs cap gq vr vk vf v ss rs q K W':=
 ⟨iT h.be hb,bN h.b hb (bO h.b),bU h.r hb di,bN h.sq hb (bO h.sq),h.k.below hb,h.f.below hb,bU h.own hb di⟩
theorem Fb.grown (h:Fb w gs cap gq vr vk vf v ss rs q K W) {xs:List V_} (hK:dh W gK 148 xs) (hlo:w.heap.size<=gK) (hne:∀b,v.ownBlock=some b->b≠gK) (hg:W.grownBy W' (some gK)):Fb w gs cap gq vr vk vf v ss rs q K W':=
 ⟨h.be.grown hg h.be.size (fun k e=>by cases e;exact hlo),bQ h.b hg (fun e=>dD h.b hK (by decide) (oi_ e)),dA h.r hK (by decide) hg,bQ h.sq hg (fun e=>dD h.sq hK (by decide) (oi_ e)),dA h.k hK (by decide) hg,dA h.f hK (by decide) hg,EX h.own (fun k e e'=>hne k e (oi_ e')) hg⟩
theorem Fb.add (h:Fb w gs cap gq vr vk vf v ss rs q K W) {k:aA} (ho:W'.ownsRow w.heap.size 148 257 v' (K++[k]).length (zC (K++[k]))) (hg:W.grownBy W' v.ownBlock):Fb w gs cap gq vr vk vf v' ss rs q (K++[k]) W':=
 ⟨h.be.grown hg h.be.size (fun k e=>(ol_ h.own k e).1),dR h.own h.b (by decide) hg,fI h.r h.own (by decide) hg,dR h.own h.sq (by decide) hg,fI h.k h.own (by decide) hg,fI h.f h.own (by decide) hg,ho⟩
end
namespace Pu
def AB (r:Int) (f:Nat->Nat) (b:Nat):aA:=⟨r,(List.range b).map f++List.replicate (256-b) 0⟩
theorem Vj (r:Int) (f:Nat->Nat):AB r f 0=⟨r,jU⟩:=rfl
theorem Zb (r:Int) (f:Nat->Nat) (h:b<=256):(AB r f b).longer.length=256:=by unfold AB;rw [la_,lm_,List.length_range,lp_];omega
theorem Vi (r:Int) (f:Nat->Nat) (h:b<256):(AB r f (b+1)).longer=(AB r f b).longer.set b (f b):=by
 unfold AB
 obtain⟨m,hm⟩:∃m,256-b=m+1:=⟨256-b-1,by omega⟩
 rw [hm,List.replicate_succ,show 256-(b+1)=m by omega,List.range_succ,List.map_append];show _=((List.range b).map f++0::List.replicate m 0).set b (f b);rw [List.set_append_right _ _ (by simp)];simp
theorem Za (rs:List Int) (ss:List aN) (q:gG) (set:Nat):AB (rs.getD set 0) (fun b=>q.kinds.getD (qp ss set b) 0) 256=qo rs ss q set:=by unfold AB qo;simp
theorem PO (ls:List aD) (ss:List aN) {i o:Nat} (h:(nN ss (dE ls ss)).firsts[i]?=some o):(jI ls ss).take (i+1)=(jI ls ss).take i++[qo (dE ls ss) ss (nN ss (dE ls ss)) o]:=by rw [List.take_add_one];unfold jI;rw [gm_,h];rfl
theorem Oa (ss:List aN) (rs:List Int):(nN ss rs).kinds.length=ss.length/\(nN ss rs).firsts.length<=ss.length/\∀o∈(nN ss rs).firsts,o<ss.length:=by
 have key:∀(f:Nat) (q:gG),(f=0->q.kinds.length=ss.length/\q.firsts.length<=ss.length/\∀o∈q.firsts,o<ss.length)->(ny ss rs f q).kinds.length=ss.length/\(ny ss rs f q).firsts.length<=ss.length/\∀o∈(ny ss rs f q).firsts,o<ss.length:=by
  intro f
  induction f with
  | zero=>intro q h;exact h rfl
  | succ f ih=>
   intro q _;unfold ny;split
   .exact uA ..
   .exact ih _ (fun _=>uA ..)
 exact key _ _ (fun h=>by omega)
end Pu
theorem ab4 (r:Int) (f:Nat->Nat) (h:b<256):(vP (AB r f b)).set (1+b) (I_ (f b:Int))=vP (AB r f (b+1)):=by unfold vP;rw [Nat.add_comm,ss_,Vi r f h];unfold bV;rw [List.map_set];rfl
theorem Vk (B n gs cap:Nat) (vl:V_) (ls:List aD) (ss:List Pu.aN) (w:W_) (hL:Lm B w vl ls) (hS:qB B w (s_ gs ss.length cap) ss) (hl:ls.length<=1000) (hn:n<=1000) (hok:∀x∈ls,mI n x.pt) (hpl:∀x∈ss,x.places.length<=1000) (hlt:∀z∈ss,∀m∈z.longer,m<ss.length) (hsl:ss.length<=1000) :
  C_ 24 #[vl,s_ gs ss.length cap] w (ada (jI ls ss) w):=by
 obtain⟨il,hil,hl0,hl1,hl2⟩:=ip_ uF
 have F0:Hid (Fa w gs cap n_ ss ((Pu.dE ls ss).take 0) (w.alloc (c_ #[s_ gs ss.length cap,n_] 139))):=⟨mi _,hn_ _ _,fT _ _ _ _⟩
 have HL:=bK hL;have HS:=bK hS;have OK:=bK hok;have HPL:=bK hpl;have IY:=bK hlt;clear hL hS hok hpl hlt;go_enter Tryz.func24,Tryz.ntmps24
 go_wp2_with fail
 go_loopg [7,19] ss.length (fun gk _ kv wx=>∃(k:Nat) (vr:V_),k<=ss.length/\gk=ss.length-k/\kv=I_ k/\Fa w gs cap vr ss ((Pu.dE ls ss).take k) wx)
 case atStart=>exact⟨0,_,zl_ _,rfl,rfl,F0.o⟩
 case round=>
  clear F0;obtain⟨k,vr,kl,rfl,rfl,hF⟩:=hrel;by_cases hlt:k<ss.length
  .have d1:=nV k ss.length;have wi:=kg k;have Mr:=jg k;have Ij:(k:Int)<ss.length:=by omega
   obtain⟨x,hx⟩:=qG ss k hlt;have hxl:=HPL.o x (mg_ hx);have TK:=bK (JP ls ss hx);have RL:((Pu.dE ls ss).take k).length<=1000:=by rw [List.length_take];omega
   generalize (Pu.dE ls ss).take k=rs at *;generalize hfr:fU ls x.places=fr at *;obtain⟨gs',cap',ax,nx,cx,ev,hrg,ag3,hlg⟩:=(HS.o.below hF.be).get hx;cases ev;obtain⟨ar,cr,rfl,_,_⟩:=dS hF.r;have zv:=IG;have Xh:Hid (dh (wr.alloc (c_ xz.toArray 142)) wr.heap.size 142 xz):=hn_ _ _;have sl:(nS (x,.slice ax nx cx)).length=257:=lU hlg;have BX:=bK (oK (nS (x,.slice ax nx cx)) Xh.o (by rw [pg,sl]));have bw:B_ wr ((wr.alloc (c_ xz.toArray 142)).setCells wr.heap.size 0 (nS (x,.slice ax nx cx))):=ky (g:=wr.heap.size) di _ 0 _ ((Br_ wr.heap.size wr).alloc di _);have F2:=bK (hF.below bw);have N2:=bK (ag3.below bw);have L2:=bK ((HL.o.below hF.be).below bw);have Xm:=bK hrg;have NXW:Hid (wr.heap.size≠w.heap.size):=by have:=bO hF.b;show _≠_;omega
   clear hrg ag3 hF bw;go_upto_region 5 with (first | (refine wl_ rfl 142 (.tmp 21) rfl gs (k*257) rfl _ _ Xm.o Tryz.underlying142 rfl (by rw [sl];exact zV) ?_) | (refine ws_ rfl 142 (.tmp 7) (.tmp 22) rfl wr.heap.size 0 (nS (x,.slice ax nx cx)).toArray rfl rfl (by have:=mH Xh.o;rw [pg] at this;simpa [sl] using this) (by simp only [List.size_toArray,sl];exact zV) (oc_ (Fz rfl)) ?_));clear Xm Xh;generalize (wr.alloc (c_ xz.toArray 142)).setCells wr.heap.size 0 (nS (x,.slice ax nx cx))=W2 at *;generalize wr.heap.size=gx at *;have bd:B_ W2 W2.drew:=(Br_ _ _).drew;have FD:=bK (F2.o.below bd);have BXD:=bK (bN BX.o bd (bO BX.o))
   have fw:Hid (∀W',B_ W2.drew W'->C_ 55 #[vl,.slice ax nx cx] W' (mW (I_ fr) W')):=fun W' hb=>by have:=GA B n vl (.slice ax nx cx) ls x.places W' ((L2.o.below bd).below hb) ((N2.o.below bd).below hb) hl hn OK.o hxl;rw [hfr] at this;exact this
   have S1:W2.drew.cell? (a_ gx 0)=some (.slice ax nx cx):=bM (j:=0) BXD.o rfl;have c1:=bP 1 FD.o.b rfl;clear bd F2 BX N2 L2;refine wd_ (S:=fun w'=>w'.cell? (a_ gx 0)=some (.slice ax nx cx)) (by kernel_rfl) S1 (fun dF=>?_);generalize W2.drew=WD at *;refine bW 0 ?_
   refine bW 2 ?_
   refine bW 3 ?_
   refine bW 4 ?_
   refine xY 1 5 (fun K hK=>?_) (fun K hK=>?_)
   focus
    go_simp
    refine hK.out _ _ (dF) (fun dF=>?_);clear hK K
    try simp only [nU,Act.put]
    refine fq 5 (fun K hK=>?_)
   rotate_left
   rotate_left
   all_goals
    go_simp
    refine (fw.o _ (Br_ _ _)).mono ?_
    rintro e w3 ⟨rfl,hb3⟩;have F3:=bK (FD.o.below hb3);have BX3:=bK (bN BXD.o hb3 (bO BXD.o));have hb4:B_ w3 (w3.alloc (c_ #[I_ fr] 3)):=mi _;have F4:=bK (F3.o.below hb4);have BX4:=bK (bN BX3.o hb4 (bO BX3.o));have c3:=bP 1 F3.o.b rfl;have c4:=bP 1 F4.o.b rfl;have SZ4:Hid (w.heap.size<=(w3.alloc (c_ #[I_ fr] 3)).heap.size):=F4.o.be.size;clear hb3 hb4;refine hK.out _ _ (bM (j:=0) BX3.o rfl) (fun dF=>?_);clear hK K
    try simp only [nU,Act.put]
   .refine fq 6 (fun K hK=>?_);refine eQ 31 3 0 (.tmp 28) (I_ fr) rfl rfl #[I_ fr] il _ 1 Tryz.underlying31 hil hl0 hl1 (by omega) (by omega) (Mv _) ?_
    refine hK.out _ _ (bM (j:=0) BX4.o rfl) (fun dF=>?_);clear hK K
    try simp only [nU,Act.put]
    refine fq 7 (fun K hK=>?_);refine sa_ _ (by rfl) _ _ _ (by rfl) w.heap.size 3 il _ 1 8 Tryz.underlying31 hil hl0 hl1 hl2 rfl (by omega) (.slice ar rs.length cr) rs.length (bY rs) (by rfl) F4.o.r (a_ w3.heap.size 0) 1 1 [I_ fr] (by rfl) rfl (World.news_of_block (cs:=#[I_ fr]) (t:=3) (fr:=(0,0)) (hn_ _ _)) (fun z hz=>by simp at hz;rw [hz];rfl) (by omega) (by unfold maxLen;omega) (by omega) SZ4.o (w3.heap.size+1) (by simp) ?_
    intro g2 fE w5 dw bS jH kV;clear jH kV;have kD:=dR F4.o.r F4.o.b (by decide) bS;have bx5:=dR F4.o.r BX4.o (by decide) bS;refine hK.out _ _ (bM (j:=0) bx5 rfl) (fun dF=>?_);have k5:=bP 1 kD rfl;have Ps:=bL kD 1;clear hK K
    try simp only [nU,Act.put]
    refine bW 8 ?_
    refine fq 9 (fun K hK=>?_)
    go_simp
    have hg3:=gs_ w5 w.heap.size 1 (s_ g2 (rs.length+1) fE);have bx6:=bQ bx5 hg3 (fun e=>NXW.o (oi_ e));refine hK.out _ _ (bM (j:=0) bx6 rfl) (fun dF=>?_);clear hK K;refine wpAnyH_done (by kernel_rfl) ?_ _;have F6:=bK (F4.o.add dw bS);clear kD bx5 bx6 k5 Ps dw bS hg3 F3 F4 BX3 BX4 c3 c4 SZ4 FD BXD c1 S1 fw;generalize w5.setCell (a_ w.heap.size 1) (s_ g2 (rs.length+1) fE)=w6 at *;go_wp2;go_roundg (ss.length-(k+1))
    case measure=>omega
    case rel=>exact⟨k+1,_,by omega,rfl,by go_num,by rw [TK.o];exact F6.o⟩
   .refine xY 1 6 (fun K hK=>?_) (fun K hK=>?_)
    focus
     go_simp
     refine hK.out _ _ (dF) (fun dF=>?_);clear hK K
     try simp only [nU,Act.put]
     refine fq 6 (fun K hK=>?_)
    rotate_left
    rotate_left
    all_goals
     refine eQ 31 3 0 (.tmp 28) (I_ fr) rfl rfl #[I_ fr] il _ 1 Tryz.underlying31 hil hl0 hl1 (by omega) (by omega) (Mv _) ?_
     refine hK.out _ _ (bM (j:=0) BX4.o rfl) (fun dF=>?_)
    rotate_left
    focus
     clear hK K
     try simp only [nU,Act.put]
     refine fq 1 (fun K hK=>?_)
     go_simp
     refine hK.out _ _ (dF) (fun dF=>?_)
    all_goals
     clear hK K
     try simp only [nU,Act.put]
     refine fq 7 (fun K hK=>?_);refine sa_ _ (by rfl) _ _ _ (by rfl) w.heap.size 3 il _ 1 8 Tryz.underlying31 hil hl0 hl1 hl2 rfl (by omega) (.slice ar rs.length cr) rs.length (bY rs) (by rfl) F4.o.r (a_ w3.heap.size 0) 1 1 [I_ fr] (by rfl) rfl (World.news_of_block (cs:=#[I_ fr]) (t:=3) (fr:=(0,0)) (hn_ _ _)) (fun z hz=>by simp at hz;rw [hz];rfl) (by omega) (by unfold maxLen;omega) (by omega) SZ4.o (w3.heap.size+1) (by simp) ?_
     intro g2 fE w5 dw bS jH kV;clear jH kV;have kD:=dR F4.o.r F4.o.b (by decide) bS;have bx5:=dR F4.o.r BX4.o (by decide) bS;refine hK.out _ _ (bM (j:=0) bx5 rfl) (fun dF=>?_);have k5:=bP 1 kD rfl;have Ps:=bL kD 1;clear hK K
     try simp only [nU,Act.put]
     refine bW 8 ?_
     refine fq 9 (fun K hK=>?_)
     go_simp
     have hg3:=gs_ w5 w.heap.size 1 (s_ g2 (rs.length+1) fE);have bx6:=bQ bx5 hg3 (fun e=>NXW.o (oi_ e));refine hK.out _ _ (bM (j:=0) bx6 rfl) (fun dF=>?_);clear hK K;refine wpAnyH_done (by kernel_rfl) ?_ _;have F6:=bK (F4.o.add dw bS);clear kD bx5 bx6 k5 Ps dw bS hg3 F3 F4 BX3 BX4 c3 c4 SZ4 FD BXD c1 S1 fw;generalize w5.setCell (a_ w.heap.size 1) (s_ g2 (rs.length+1) fE)=w6 at *;go_wp2;go_roundg (ss.length-(k+1))
     case measure=>omega
     case rel=>exact⟨k+1,_,by omega,rfl,by go_num,by rw [TK.o];exact F6.o⟩
  .have d1:=mM k ss.length;have ek:(Pu.dE ls ss).take k=Pu.dE ls ss:=List.take_of_length_le (by rw [Pu.nk];omega);rw [ek] at hF;have RN:=bK (Pu.nk ls ss);have KS:Hid (jI ls ss=(nN ss (Pu.dE ls ss)).firsts.map (qo (Pu.dE ls ss) ss (nN ss (Pu.dE ls ss)))):=rfl;have KT:=bK (fun (i o:Nat) (h:(nN ss (Pu.dE ls ss)).firsts[i]?=some o)=>PO ls ss h);have SF:=bK (Oa ss (Pu.dE ls ss));have fw:=bK (aag 0 w.heap.size gs cap vr ss (Pu.dE ls ss) wr (hF.md (Wl (HS.o.below hF.be)) RN.o) IY.o hsl);generalize Pu.dE ls ss=rs at *;have HF:=bK hF;clear hF ek
   go_wp2_with fail
   refine fw.o.mono ?_
   clear fw;rintro e w3 ⟨v1,v2,rfl,hb3,o1,o2,_⟩;generalize nN ss rs=q at *;obtain⟨a1,c1,rfl,_,_⟩:=dS o1;obtain⟨a2,c2,rfl,_,_⟩:=dS o2;have qm:B_ w3 (w3.alloc (c_ #[.slice a1 q.kinds.length c1,.slice a2 q.firsts.length c2] 145)):=mi _;have F4:=bK ((HF.o.below hb3).below qm);have Q4:Hid (dh (w3.alloc (c_ #[.slice a1 q.kinds.length c1,.slice a2 q.firsts.length c2] 145)) w3.heap.size 145 [.slice a1 q.kinds.length c1,.slice a2 q.firsts.length c2]):=hn_ _ _;have N1:Hid (ed (w3.alloc (c_ #[.slice a1 q.kinds.length c1,.slice a2 q.firsts.length c2] 145)) (.slice a1 q.kinds.length c1) q.kinds):=dH (bU o1 qm di) (zl_ _);have N2:Hid (ed (w3.alloc (c_ #[.slice a1 q.kinds.length c1,.slice a2 q.firsts.length c2] 145)) (.slice a2 q.firsts.length c2) q.firsts):=dH (bU o2 qm di) (zl_ _);clear HF hb3 o1 o2 qm;go_upto_region 8 with (fail);generalize w3.alloc (c_ #[.slice a1 q.kinds.length c1,.slice a2 q.firsts.length c2] 145)=W4 at *;generalize w3.heap.size=gq at *;have x0:=bP 0 Q4.o rfl;have x1:=bP 1 Q4.o rfl;obtain⟨ik,hik,hk0,hk1,hk2⟩:=ip_ C9;obtain⟨W5,mk5,ow5,gr5⟩:=run_make_own (P:=Tryz.prog) W4 w.heap.size 88 148 ik _ 257 Tryz.underlying88 hik hk0 hk1 .i64 .i64 q.firsts.length (by rw [hk2];have:=SF.o.2.1;omega) (by unfold maxLen;have:=SF.o.2.1;omega) F4.o.be.size;have b5:=uV gr5
   have FB5:Hid (Fb w gs cap gq vr (.slice a1 q.kinds.length c1) (.slice a2 q.firsts.length c2) (s_ W4.heap.size 0 q.firsts.length) ss rs q ((jI ls ss).take 0) W5):=by have F5:=F4.o.below b5;exact⟨F5.be,F5.b,F5.r,bN Q4.o b5 (bO Q4.o),N1.o.below b5,N2.o.below b5,by rw [List.take_zero];exact ow5⟩
   have y0:=bP 0 FB5.o.sq rfl;have y1:=bP 1 FB5.o.sq rfl;clear F4 Q4 N1 N2 ow5 gr5 b5
   go_wp2_with fail
   clear x0 x1 y0 y1 mk5;generalize W4.heap.size=g9 at *
   go_loopg [9,11,12,41] q.firsts.length (fun gk kv _ _ iv wx=>∃(i:Nat) (v:V_),i<=q.firsts.length/\gk=q.firsts.length-i/\iv=I_ i/\v=kv/\Fb w gs cap gq vr (.slice a1 q.kinds.length c1) (.slice a2 q.firsts.length c2) v ss rs q ((jI ls ss).take i) wx)
   case atStart=>exact⟨0,_,zl_ _,rfl,rfl,rfl,FB5.o⟩
   case round=>
    clear FB5;obtain⟨i,v,il,rfl,rfl,rfl,hF⟩:=hrel;have KLE:((jI ls ss).take i).length<=1000:=by have:=SF.o.2.1;rw [KS.o,List.length_take,lm_];omega
    by_cases hi:i<q.firsts.length
    .have d2:=nV i q.firsts.length;have wi:=kg i;have ii0:=jg i;have ii1:(i:Int)<q.firsts.length:=by omega
     obtain⟨o,ho⟩:=qG q.firsts i hi;have ol:=SF.o.2.2 o (mg_ ho);have KN:=bK (KT.o i o ho);generalize (jI ls ss).take i=K at *;obtain⟨gf,ef,_,fc⟩:=hF.f.some (by omega);subst ef;have f1:=fc i o ho;obtain⟨gr,cr,er,_,_⟩:=dJ hF.r (by rw [RN.o];omega);subst er;obtain⟨ra,hra⟩:∃z,rs[o]?=some z:=⟨_,gg_ (by rw [RN.o];exact ol)⟩;have r1:=bT hF.r (show (bY rs)[o]?=some (I_ ra) by simp [bY,hra]);have RA:Hid (rs.getD o 0=ra):=by show _=_;rw [gd_,hra];rfl
     have io0:=jg o;have io1:(o:Int)<rs.length:=by have:=RN.o;omega
     have io2:(o:Int)<ss.length:=by omega
     have m1:=bP 1 hF.b rfl;have y1:=bP 1 hF.sq rfl;have KB:=bK (Zc ra);have zk:=Zd;rw [<-ab3] at KB;have Xh:Hid (dh (wr.alloc (c_ kdZ.toArray 148)) wr.heap.size 148 kdZ):=hn_ _ _;have sl:(vP ⟨ra,Pu.jU⟩).length=257:=oN Ou;have BX:=bK (oK (vP ⟨ra,Pu.jU⟩) Xh.o (by rw [uW,sl]));have bw:B_ wr ((wr.alloc (c_ kdZ.toArray 148)).setCells wr.heap.size 0 (vP ⟨ra,Pu.jU⟩)):=ky (g:=wr.heap.size) di _ 0 _ ((Br_ wr.heap.size wr).alloc di _);have F6:=bK (hF.below bw);have NE6:Hid (∀b,v.ownBlock=some b->b≠wr.heap.size):=fun b e=>by have:=(ol_ hF.own b e).2;omega
     have GL6:Hid (w.heap.size<=wr.heap.size):=hF.be.size;clear hF fc bw ho hra;go_upto_region 13 with (first | (refine oz rfl 148 0 (.tmp 49) (I_ ra) rfl rfl _ KB.o ?_) | (refine ws_ rfl 148 (.tmp 12) (.tmp 50) rfl wr.heap.size 0 (vP ⟨ra,Pu.jU⟩).toArray rfl rfl (by have:=mH Xh.o;rw [uW] at this;simpa [sl] using this) (by simp only [List.size_toArray,sl];exact Jv) (oc_ (S9 _)) ?_));clear Xh f1 r1 m1 y1 KB;generalize (wr.alloc (c_ kdZ.toArray 148)).setCells wr.heap.size 0 (vP ⟨ra,Pu.jU⟩)=W6 at *;generalize wr.heap.size=gK at *;obtain⟨x,hx⟩:=qG ss o ol;have LG:=bK ((HS.o.below F6.o.be).ace hx);have xl:=LG.o.2.1
     have LGX:Hid (∀(b p:Nat),x.longer[b]?=some p->qp ss o b=p):=fun b p hp=>by unfold qp;rw [hx];simp [gd_,hp]
     have XLT:=bK (IY.o x (mg_ hx));have KLN:=bK SF.o.1;clear hx;go_upto_region 14 with (refine wl_ rfl 140 (.tmp 54) rfl gs (o*257+1) rfl _ _ LG.o.1 Tryz.underlying140 rfl (by rw [gX,xl];kernel_rfl) ?_);clear LG
     go_loopg [13,14,56] 256 (fun gj _ _ bv wx=>∃(b:Nat),b<=256/\gj=256-b/\bv=I_ b/\Fb w gs cap gq (s_ gr rs.length cr) (.slice a1 q.kinds.length c1) (s_ gf q.firsts.length c2) v ss rs q K wx/\dh wx gK 148 (vP (AB ra (fun b=>q.kinds.getD (qp ss o b) 0) b)))
     case atStart=>exact⟨0,zl_ _,rfl,rfl,F6.o,by rw [Vj];exact BX.o⟩
     case round=>
      clear F6 BX;obtain⟨b,bl,rfl,rfl,hF,hB⟩:=hrel;by_cases hb:b<256
      .have d3:decide ((b:Int)<256)=true:=dt_ (by omega);have wb:=kg b;have ib0:=jg b;have ib1:(b:Int)<256:=by omega
       obtain⟨p,hp⟩:=qG x.longer b;have pl:=XLT.o p (mg_ hp);have ip0:=jg p;have ip1:(p:Int)<q.kinds.length:=by have:=KLN.o;omega
       obtain⟨gk,ek,_,kc⟩:=hF.k.some (by have:=KLN.o;omega);subst ek;obtain⟨kp,hkp⟩:∃z,q.kinds[p]?=some z:=⟨_,gg_ (by have:=KLN.o;omega)⟩;have k1:=kc p kp hkp;have y0:=bP 0 hF.sq rfl;have xc:(bV x.longer).toArray[b]?=some (I_ p):=by rw [List.getElem?_toArray];exact iD hp
       have hix:=yt _ b _ hb xc;have FV:Hid (q.kinds.getD (qp ss o b) 0=kp):=by show _=_;rw [LGX.o b p hp,gd_,hkp];rfl
       have KS:=bK (ab4 ra (fun b=>q.kinds.getD (qp ss o b) 0) hb);have KUL:=Zb ra (fun b=>q.kinds.getD (qp ss o b) 0) bl;generalize AB ra (fun b=>q.kinds.getD (qp ss o b) 0) b=ku at *;obtain⟨z,hz⟩:∃z,(vP ku)[1+b]?=some z:=⟨_,gg_ (by rw [oN KUL];omega)⟩;have s1:=bM hB hz;have s2:=bL hB (1+b);have hg:=gs_ wr gK (1+b) (I_ kp);have F7:=bK (hF.grown hB GL6.o NE6.o hg);have B7:Hid (dh (wr.setCell (a_ gK (1+b)) (I_ kp)) gK 148 (vP (AB ra (fun b=>q.kinds.getD (qp ss o b) 0) (b+1)))):=by have:=cO hB (1+b) (I_ kp);rw [<-KS.o,FV.o];exact this
       clear hF hB kc hp hkp xc pl hg KS FV hz KUL;go_wp2;go_roundg (256-(b+1))
       case measure=>omega
       case rel=>exact⟨b+1,by omega,rfl,by go_num,F7.o,B7.o⟩
      .have d3:decide ((b:Int)<256)=false:=dn_ (by omega);have eb:b=256:=by omega
       subst eb;rw [<-RA.o,Za] at hB;rw [<-RA.o] at *;have kol:(qo rs ss q o).longer.length=256:=by simp [qo]
       generalize qo rs ss q o=ko at *;have sl2:(vP ko).length=257:=oN kol;have Xm:=bK (dZ hB);have qm:B_ wr (wr.alloc (c_ (vP ko).toArray 148)):=mi _;have F8:=bK (hF.below qm);have NB:Hid (dh (wr.alloc (c_ (vP ko).toArray 148)) wr.heap.size 148 (vP ko)):=hn_ _ _;have SZ8:Hid (w.heap.size<=(wr.alloc (c_ (vP ko).toArray 148)).heap.size):=F8.o.be.size;clear hF hB qm;go_upto_region 19 with (first | (refine wl_ rfl 148 (.tmp 12) rfl gK 0 rfl _ _ Xm.o Tryz.underlying148 rfl (by rw [sl2];exact Jv) ?_) | (refine Gc rfl 88 148 (.tmp 70) (vP ko) rfl rfl ik kdZ 257 Tryz.underlying88 hik hk0 hk1 uW sl2 (by omega) (by omega) ?_) | (at_builtin;refine Bj rfl (.tmp 69) (.tmp 71) rfl w.heap.size v K rfl F8.o.own wr.heap.size ko rfl NB.o kol KLE SZ8.o ?_;intro v9 w9 hown9 pM));have F9:=bK (F8.o.add hown9 pM);clear hown9 pM F8 NB SZ8 Xm;go_wp2;go_roundg (q.firsts.length-(i+1))
       case measure=>omega
       case rel=>exact⟨i+1,v9,by omega,rfl,by go_num,rfl,by rw [KN.o];exact F9.o⟩
    .have d2:=mM i q.firsts.length;have ei:(jI ls ss).take i=jI ls ss:=List.take_of_length_le (by rw [KS.o,lm_];omega);rw [ei] at hF;have LN:Hid (∀k∈jI ls ss,k.longer.length=256):=fun k hk=>by rw [KS.o] at hk;obtain⟨o,_,rfl⟩:=List.mem_map.1 hk;simp [qo]
     have FIN:Hid (ada (jI ls ss) w (.returned v) wr):=⟨v,rfl,hF.be,hF.own,LN.o⟩;clear hF;go_wp2;go_ret;exact FIN.o
theorem Tryz.info5 : (Tryz.prog.info? 5).map (fun i=>(i.zero,i.size,i.bytes))=some (some (.int .u8 0),1,1):=by kernel_rfl
def qy (xs:List Int):List V_:=xs.map (Value.int .u8)
theorem Ra (xs ys:List Int):qy (xs++ys)=qy xs++qy ys:=by simp [qy]
def Bytes (B:Nat) (w:W_) (v:V_) (xs:List Int):Prop:=w.ownsRow B 5 1 v xs.length (qy xs)
theorem jJ {xs:List V_} (hn:n=w.heap.size) (j:Nat) (u:V_) (h:xs[j]?=some u):(w.alloc (c_ xs.toArray t)).cell? (((a_ n 0):Addr).add j)=some u:=by
 subst hn;have:(w.alloc (c_ xs.toArray t)).cell? (a_ w.heap.size j)=some u:=by rw [World.cell?_alloc_mark];simpa using h
 by_cases hj:j=0
 .subst hj;simpa [Addr.add] using this
 .simpa [Addr.add,hj] using this
theorem Bytes.on {ys:List Int} (hn:n=xs.length+ys.length) (h:w.ownsRow B 5 1 v n (qy xs++qy ys)):Bytes B w v (xs++ys):=by subst hn;unfold Bytes;rw [Ra,la_];exact h
theorem acz {g:Nat} (hB:B<=w.heap.size) (hn:n=xs.length) (hm:n<=1000000) (hg:g=w.heap.size):Bytes B (w.alloc (c_ (qy xs).toArray 5)) (s_ g n n) xs:=by subst hn;subst hg;refine⟨by simp [qy],.inr ⟨w.heap.size,xs.length,(qy xs).toArray,rfl,hB,hn_ w _,di,by unfold maxLen;omega,by simp [qy],?_⟩⟩;rw [List.take_of_length_le (by simp [qy])]
def XK (xs:List Int) (w:W_) (e:Ending) (w':W_):Prop:=e=.returned (.string (strOfNums xs))/\B_ w w'
theorem Bytes.str (h:Bytes B w v xs) (hx:0<xs.length) :
  ∃g cap,v=s_ g xs.length cap/\(convert 152 9 (s_ g xs.length cap)).run Tryz.prog w=.ok (.string (strOfNums xs)) w:=by
 obtain⟨ao,cap,h1,_,_,h4⟩:=jT h;obtain⟨b,rfl,_,_,hc⟩:=h4 0 (by omega);refine⟨b,cap,h1,run_convert_bytes_arg w 152 5 Tryz.underlying152 Tryz.underlying5 b 0 xs.length cap xs rfl (fun i hi=>?_) 9 Tryz.underlying9⟩;rw [Nat.zero_add];exact hc i _ (by simp [qy,gg_ hi])
def Xz (B:Nat) (xs:List Int) (w:W_) (e:Ending) (w':W_):Prop:=∃v,e=.returned v/\Bytes B w' v xs/\Below B w w'
structure aN (B:Nat) (W0 w:W_) (v:V_) (xs:List Int) (b:Nat) (C:Array V_) (t:TypeId):Prop where
 uo:Below B W0 w
 byt:Bytes B w v xs
 loc:w.heap[b]?=some (c_ C t (0,0))
 sz:B<=w.heap.size
theorem lC {w:W_} {b:Nat} {C:Array V_} {t:TypeId} (h:w.heap[b]?=some (c_ C t (0,0))) {j:Nat} {u:V_} (hj:C[j]?=some u):w.cell? (a_ b j)=some u:=by simp [World.cell?,h,hj]
theorem aN.app {W0 w1:W_} {v1:V_} {ys:List Int} {C:Array V_} {o:Obj} (s:aN B W0 w v xs b C t) (ht:t≠5) (hn:n=xs.length+ys.length)
  (h:w1.ownsRow B 5 1 v1 n (qy xs++qy ys)) (hg:(w.alloc o).grownBy w1 v.ownBlock):aN B W0 w1 v1 (xs++ys) b C t:=by
 have hlt:=ol_ s.byt;have hsz:=hg.size;simp only [wa_] at hsz;have hbl:b<w.heap.size:=(Array.getElem?_eq_some_iff.1 s.loc).1
 have hne:some b≠v.ownBlock:=by
  intro e;rcases s.byt.2 with ⟨hv,_⟩ | ⟨g,cap,cur,hv,_,hgg,_⟩
  .rw [hv] at e;simp [Value.ownBlock] at e
  .rw [hv] at e;simp [Value.ownBlock] at e;subst e;rw [s.loc] at hgg;simp at hgg;exact ht hgg.2
 refine⟨(s.uo.alloc s.sz o).grown hg (by simp only [wa_];have:=s.sz;omega) (fun k hk=>(hlt k hk).1),Bytes.on hn h,?_,by have:=s.sz;omega⟩;rw [hg.block b (by simp only [wa_];omega) hne];rw [heap_alloc_old w o hbl];exact s.loc
theorem aN.step {B:Nat} {W0 w:W_} {v:V_} {xs:List Int} {b:Nat} {C:Array V_} {t:TypeId} (s:aN B W0 w v xs b C t) (o:Obj):aN B W0 (w.alloc o) v xs b C t:=
 ⟨s.uo.alloc s.sz o,oa_ s.byt o,by rw [heap_alloc_old w o (Array.getElem?_eq_some_iff.1 s.loc).1];exact s.loc,by have:=s.sz;simp only [wa_];omega⟩
theorem aN.made {W0 w1:W_} {C:Array V_} (hg:W0.grownBy w1 none) (hB:B<=W0.heap.size) (fH:w1.ownsRow B 5 1 v 0 []) (hloc:W0.heap[b]?=some (c_ C t (0,0))):aN B W0 w1 v [] b C t:=by have hsz:=hg.size;have hbl:b<W0.heap.size:=(Array.getElem?_eq_some_iff.1 hloc).1;refine⟨(Br_ _ _).grown hg hB (fun k hk=>by cases hk),fH,?_,by omega⟩;rw [hg.block b hbl (by simp)];exact hloc
theorem WG (ve vr vc:V_) (p:oC) (w:W_) (hE:vI w ve p.ents) (hR:qJ w vr p.rules) (hC:Code w vc p.code) (hp:iy p) :
  C_ 26 #[.agg #[ve,vr,vc]] w (XK (vN p) w):=by
 obtain⟨aS,hi,hz0,hz1,hz2⟩:=ip_ Tryz.info5;obtain⟨ae,ce,rfl,he1,he2,rP⟩:=hE.read;obtain⟨ar,cr,rfl,hr1,hr2,pO⟩:=hR.read;obtain⟨ac,cc,rfl,hc1,hc2,mK⟩:=hC.read;clear hE hR hC;have hm:=hp.1.1;have hk:=hp.2.1.1;have hn:=hp.2.2.1.1;have HP:=bK hp;clear hp;have agR:(w.alloc (c_ #[.slice ae p.ents.length ce,.slice ar p.rules.length cr,.slice ac p.code.length cc] 43)).heap[w.heap.size]?=some (c_ #[.slice ae p.ents.length ce,.slice ar p.rules.length cr,.slice ac p.code.length cc] 43 (0,0)):=hn_ _ _;have HBX:=bK agR;clear agR;go_enter Tryz.func26,Tryz.ntmps26
 go_wp2_with (first | (at_make;refine wpList_make_own _ rfl _ _ 152 rfl (w.heap.size+1) 5 aS (.int .u8 0) 1 Tryz.underlying152 hi hz0 hz1 _ _ _ (6+p.ents.length*2+p.rules.length*3+p.code.length*5) rfl rfl (by omega) (by rw [hz2];omega) (by unfold maxLen;omega) (by simp) ?_;intro w1 nZ kN;have s1:=aN.made kN (by simp) nZ HBX.o;simp only [wa_] at s1;clear nZ kN;have k0:=lC (j:=0) s1.loc rfl;have k1:=lC (j:=1) s1.loc rfl;have k2:=lC (j:=2) s1.loc rfl) | (at_builtin;refine wo_ _ rfl (.tmp 26) (.tmp 35) 152 rfl (w.heap.size+1) 5 aS (.int .u8 0) 1 1 Tryz.underlying152 hi hz0 hz1 hz2 rfl (by decide) _ 0 [] rfl (oa_ s1.byt _) (a_ w1.heap.size 0) 4 4 (qy [87,82,(p.ents.length:Int),(p.rules.length:Int)]) rfl rfl (jJ rfl) (by intro u hu;simp [qy] at hu;rcases hu with rfl | rfl | rfl | rfl <;> rfl) (by unfold maxLen;omega) (by omega) (by have:=s1.sz;simp;omega) ?_;intro v2 w2 dw bS _;have s2:=s1.app (by decide) rfl dw bS;clear dw bS;have l2:=lC (j:=2) s2.loc rfl) | (at_builtin;refine wo_ _ rfl (.tmp 37) (.tmp 47) 152 rfl (w.heap.size+1) 5 aS (.int .u8 0) 1 1 Tryz.underlying152 hi hz0 hz1 hz2 rfl (by decide) v2 ([]++[87,82,(p.ents.length:Int),(p.rules.length:Int)]).length (qy ([]++[87,82,(p.ents.length:Int),(p.rules.length:Int)])) rfl (oa_ s2.byt _) (a_ w2.heap.size 0) 2 2 (qy [(p.code.length:Int) % 256,(p.code.length:Int) / 256]) rfl rfl (jJ rfl) (by intro u hu;simp [qy] at hu;rcases hu with rfl | rfl <;> rfl) (by unfold maxLen;simp) (by simp) (by have:=s2.sz;simp;omega) ?_;intro v3 w3 og wU _;have s3:=s2.app (by decide) rfl og wU;clear og wU;have m0:=lC (j:=0) s3.loc rfl))
 clear k0 k1 k2 l2 s1 s2;have S3:Hid (aN (w.heap.size+1) (w.alloc (c_ #[.slice ae p.ents.length ce,.slice ar p.rules.length cr,.slice ac p.code.length cc] 43)) w3 v3 (bq p 0) w.heap.size #[.slice ae p.ents.length ce,.slice ar p.rules.length cr,.slice ac p.code.length cc] 43):=by show aN _ _ _ _ _ _ _ _;rw [TZ];exact s3
 clear s3
 go_wp2_with fail
 clear m0;have lX:B_ w (w.alloc (c_ #[.slice ae p.ents.length ce,.slice ar p.rules.length cr,.slice ac p.code.length cc] 43)):=mi _
 go_loopw [3,52] (fun b i wr=>∃(k:Nat) (b':V_),k<=p.ents.length/\i=I_ k/\b'=b/\aN (w.heap.size+1) (w.alloc (c_ #[.slice ae p.ents.length ce,.slice ar p.rules.length cr,.slice ac p.code.length cc] 43)) wr b' (bq p k) w.heap.size #[.slice ae p.ents.length ce,.slice ar p.rules.length cr,.slice ac p.code.length cc] 43) (fun _ i _=>p.ents.length-(intOf i).toNat)
 case atStart=>exact⟨0,_,zl_ _,rfl,rfl,S3.o⟩
 case round=>
  clear S3;obtain⟨k,b,hk',rfl,rfl,s0⟩:=hrel;have hbel:=s0.uo;by_cases hlt:k<p.ents.length
  .obtain⟨b',off,rfl,hb,e0⟩:=rP k hlt;have g0:=(hbel.cell (p:=(a_ b' (off+k))) (by simp;omega)).trans ((lX.cell (p:=(a_ b' (off+k))) hb).trans e0);have hbd:=Bf HP.o hlt;have hst:=TY p k hlt;have HST:=bK hst;have hln:=Rn p k hk';generalize hxs:bq p k=xs at *;have hxl:xs.length<=300000:=by omega
   have S0:=bK s0;clear rP pO mK e0 hln hst s0 hxs hbel lX
   go_wp2_with (at_builtin;refine wo_ _ rfl (.tmp 56) (.tmp 62) 152 rfl (w.heap.size+1) 5 aS (.int .u8 0) 1 1 Tryz.underlying152 hi hz0 hz1 hz2 rfl (by decide) b xs.length (qy xs) rfl (oa_ S0.o.byt _) (a_ wr.heap.size 0) 2 2 (qy [Pu.aU p.ents k % 256,Pu.aU p.ents k / 256]) rfl rfl (jJ (by simp)) (by intro u hu;simp [qy] at hu;rcases hu with rfl | rfl <;> rfl) (by unfold maxLen;omega) (by omega) (by have:=S0.o.sz;simp;omega) ?_;intro v2 w2 dw bS _;have s2:=S0.o.app (by decide) rfl dw bS;clear dw bS)
   have s2':=s2;rw [<-HST.o] at s2';clear s2 g0
   go_roundw
   case rel=>exact⟨k+1,_,by omega,by go_num,rfl,s2'⟩
   case measure=>simp [intOf];omega
  .have hke:k=p.ents.length:=by omega
   subst hke;have S0:Hid (aN (w.heap.size+1) (w.alloc (c_ #[.slice ae p.ents.length ce,.slice ar p.rules.length cr,.slice ac p.code.length cc] 43)) wr b (bC p 0) w.heap.size #[.slice ae p.ents.length ce,.slice ar p.rules.length cr,.slice ac p.code.length cc] 43):=by show aN _ _ _ _ _ _ _ _;rw [Ua];exact s0
   have m1:=lC (j:=1) s0.loc rfl;clear s0 rP hlt hk' hbel
   go_wp2_with fail
   clear m1
   go_loopw [3,68] (fun b i wr=>∃(k:Nat) (b':V_),k<=p.rules.length/\i=I_ k/\b'=b/\aN (w.heap.size+1) (w.alloc (c_ #[.slice ae p.ents.length ce,.slice ar p.rules.length cr,.slice ac p.code.length cc] 43)) wr b' (bC p k) w.heap.size #[.slice ae p.ents.length ce,.slice ar p.rules.length cr,.slice ac p.code.length cc] 43) (fun _ i _=>p.rules.length-(intOf i).toNat)
   case atStart=>exact⟨0,_,zl_ _,rfl,rfl,S0.o⟩
   case round=>
    clear S0;obtain⟨k,b,hk',rfl,rfl,s0⟩:=hrel;have hbel:=s0.uo;have hsz:=s0.sz;by_cases hlt:k<p.rules.length
    .obtain⟨b',off,rfl,hb,e0,e1,e2⟩:=pO k hlt;have g0:=(hbel.cell (p:=(a_ b' (off+k*3))) (by simp;omega)).trans ((lX.cell (p:=(a_ b' (off+k*3))) hb).trans e0);have g1:=(hbel.cell (p:=(a_ b' (off+k*3+1))) (by simp;omega)).trans ((lX.cell (p:=(a_ b' (off+k*3+1))) hb).trans e1);have g2:=(hbel.cell (p:=(a_ b' (off+k*3+2))) (by simp;omega)).trans ((lX.cell (p:=(a_ b' (off+k*3+2))) hb).trans e2);obtain⟨hx0,hx1,hx2⟩:=yM HP.o hlt;have hst:=T9 p k hlt;have HST:=bK hst;have hln:=Ro p k hk';generalize Pu.rg p.rules k=r at *;obtain⟨re,ra,rm⟩:=r;simp only at g0 g1 g2 hx0 hx1 hx2 HST;generalize hxs:bC p k=xs at *;have hxl:xs.length<=300000:=by omega
     have S0:=bK (s0.step (c_ #[I_ re,I_ ra,I_ rm] 59));clear pO mK e0 e1 e2 hln hst s0 hxs hbel lX
     go_wp2_with (at_builtin;refine wo_ _ rfl (.tmp 72) (.tmp 82) 152 rfl (w.heap.size+1) 5 aS (.int .u8 0) 1 1 Tryz.underlying152 hi hz0 hz1 hz2 rfl (by decide) b xs.length (qy xs) rfl (oa_ S0.o.byt _) (a_ (wr.heap.size+1) 0) 3 3 (qy [re,ra,rm]) rfl rfl (jJ (by simp)) (by intro u hu;simp [qy] at hu;rcases hu with rfl | rfl | rfl <;> rfl) (by unfold maxLen;omega) (by omega) (by have:=S0.o.sz;simp;omega) ?_;intro v2 w2 dw bS _;have s2:=S0.o.app (by decide) rfl dw bS;clear dw bS)
     have s2':=s2;rw [<-HST.o] at s2';clear s2 g0 g1 g2
     go_roundw
     case rel=>exact⟨k+1,_,by omega,by go_num,rfl,s2'⟩
     case measure=>simp [intOf];omega
    .have hke:k=p.rules.length:=by omega
     subst hke;have S0:Hid (aN (w.heap.size+1) (w.alloc (c_ #[.slice ae p.ents.length ce,.slice ar p.rules.length cr,.slice ac p.code.length cc] 43)) wr b (bD p 0) w.heap.size #[.slice ae p.ents.length ce,.slice ar p.rules.length cr,.slice ac p.code.length cc] 43):=by show aN _ _ _ _ _ _ _ _;rw [Uc];exact s0
     have m2:=lC (j:=2) s0.loc rfl;clear s0 pO hlt hk' hbel hsz
     go_wp2_with fail
     clear m2
     go_loopw [3,88] (fun b i wr=>∃(k:Nat) (b':V_),k<=p.code.length/\i=I_ k/\b'=b/\aN (w.heap.size+1) (w.alloc (c_ #[.slice ae p.ents.length ce,.slice ar p.rules.length cr,.slice ac p.code.length cc] 43)) wr b' (bD p k) w.heap.size #[.slice ae p.ents.length ce,.slice ar p.rules.length cr,.slice ac p.code.length cc] 43) (fun _ i _=>p.code.length-(intOf i).toNat)
     case atStart=>exact⟨0,_,zl_ _,rfl,rfl,S0.o⟩
     case round=>
      clear S0;obtain⟨k,b,hk',rfl,rfl,s0⟩:=hrel;have hbel:=s0.uo;have hsz:=s0.sz;by_cases hlt:k<p.code.length
      .obtain⟨b',off,rfl,hb,e0,e1,e2,e3⟩:=mK k hlt;have g0:=(hbel.cell (p:=(a_ b' (off+k*4))) (by simp;omega)).trans ((lX.cell (p:=(a_ b' (off+k*4))) hb).trans e0);have g1:=(hbel.cell (p:=(a_ b' (off+k*4+1))) (by simp;omega)).trans ((lX.cell (p:=(a_ b' (off+k*4+1))) hb).trans e1);have g2:=(hbel.cell (p:=(a_ b' (off+k*4+2))) (by simp;omega)).trans ((lX.cell (p:=(a_ b' (off+k*4+2))) hb).trans e2);have g3:=(hbel.cell (p:=(a_ b' (off+k*4+3))) (by simp;omega)).trans ((lX.cell (p:=(a_ b' (off+k*4+3))) hb).trans e3);obtain⟨hx0,hx1,hx2,hx3⟩:=Bg HP.o hlt;have hst:=Ub p k hlt;have HST:=bK hst;have hln:=FY p k hk';generalize Pu.aO p.code k=r at *;obtain⟨xo,xa,xb,xt⟩:=r;simp only at g0 g1 g2 g3 hx0 hx1 hx2 hx3 HST;generalize hxs:bD p k=xs at *;have hxl:xs.length<=300000:=by omega
       have S0:=bK (s0.step (c_ #[I_ xo,I_ xa,I_ xb,I_ xt] 61));clear mK e0 e1 e2 e3 hln hst s0 hxs hbel lX
       go_wp2_with (at_builtin;refine wo_ _ rfl (.tmp 92) (.tmp 109) 152 rfl (w.heap.size+1) 5 aS (.int .u8 0) 1 1 Tryz.underlying152 hi hz0 hz1 hz2 rfl (by decide) b xs.length (qy xs) rfl (oa_ S0.o.byt _) (a_ (wr.heap.size+1) 0) 5 5 (qy [xo,xa,xb,xt % 256,xt / 256]) rfl rfl (jJ (by simp)) (by intro u hu;simp [qy] at hu;rcases hu with rfl | rfl | rfl | rfl | rfl <;> rfl) (by unfold maxLen;omega) (by omega) (by have:=S0.o.sz;simp;omega) ?_;intro v2 w2 dw bS _;have s2:=S0.o.app (by decide) rfl dw bS;clear dw bS)
       have s2':=s2;rw [<-HST.o] at s2';clear s2 g0 g1 g2 g3
       go_roundw
       case rel=>exact⟨k+1,_,by omega,by go_num,rfl,s2'⟩
       case measure=>simp [intOf];omega
      .have hke:k=p.code.length:=by omega
       subst hke;have hln:=FY p p.code.length di;obtain⟨g,cap,rfl,hcv⟩:=s0.byt.str (by omega);clear mK hlt hk' hln s0 hsz;go_wp2;go_ret;exact⟨rfl,lX.trans (hbel.mono (by omega))⟩
end Go.Proofs.YtmccnmgaoppogaaGreat
