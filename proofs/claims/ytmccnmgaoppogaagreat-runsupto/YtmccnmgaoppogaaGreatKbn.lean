import Derived.Test.YtmccnmgaoppogaaGreatTA
namespace Go.Proofs.YtmccnmgaoppogaaGreat
open Pu
set_option linter.all false
set_option maxRecDepth 100000
set_option maxHeartbeats 8000000
open Go.RowKit
variable {w w':W_} {L g:Nat} {E E1:bH} {C:bI} {e:Ending}
theorem FJ {P:Program} {ops:Array Oper} {o:Oper} {a:Act} {K:Act->W_->Prop} {Q:Exit->Act->W_->Prop} {E:Prop} (hgd:o.guard=none) (ty:TypeId) (x y:Operand) (ho:o.op=.store ty x y)
  (b off:Nat) (cells:Array V_) (hx:a.eval x=.pointer (some (a_ b off))) (hy:a.eval y=.agg cells) (ht:w.there b off cells.size) (hi:(P.info? ty).map (·.size)=some cells.size) (h1:cells.all (·.oneCell')=true)
  (h:K (a.put o.dst undef) (w.setCells b off cells.toList)):if Region.wanted o (yielded ops a.tmps)=true then Oper.wp P o a w K Q else E:=by
 have hw:Region.wanted o (yielded ops a.tmps)=true:=by simp [Region.wanted,hgd]
 rw [if_pos hw];exact wp_store_mid ty x y ho b off cells hx hy ht hi h1 h
theorem Ep (Q:W_->Prop) (gd:Nat) (ao:Option Addr) (len cap:Nat) (m:Int) (jh jb:V_) (k k':Nat) (xs ys:List V_) (w:W_) (hQ:Cg gd ao jh jb Q) (hm:0<=m/\m<=1099511627776) (hcap:cap<=9223372036854775807) (hk:k<=1099511627776/\k'<=1099511627776)
  (h:KT Q gd ao cap 0 (I_ (m+1)) m jh jb k k' xs ys w) :
  C_ 42 #[p_ gd,.slice ao len cap] w (abb Q gd ao cap (m+1) (k+1) (k'+1) (xs++[.slice ao cap cap]) (ys++[I_ (m+1)]) jb):=by
 obtain⟨i3,hi3,h30,h31,h32⟩:=ip_ Tryz.info3;obtain⟨it,hit,ht0,ht1,ht2⟩:=ip_ Tryz.inft72;have y1:=fun w=>abB 72 74 5 Tryz.underlying72 Fy ao len cap h.t.nil w
 have H0:=bK (h.akL hQ 0 (I_ (m+1)) (m':=m+1) rfl);have HQ:=bK hQ;have d0:=bP 0 h.d rfl;have f0:=bL h.d 0;clear h hQ;go_enter Tryz.func42,Tryz.ntmps42
 go_wp2_with fail
 clear d0 f0 y1;generalize w.setCell (a_ gd 0) (I_ (m+1))=W0 at *
 go_loopg [5] cap (fun gk iv wr=>∃i:Nat,i<=cap/\iv=I_ i/\gk=cap-i/\KT Q gd ao cap i (I_ (m+1)) (m+1) jh jb k k' xs ys wr)
 case atStart=>exact⟨0,zl_ _,rfl,rfl,H0.o⟩
 case round=>
  clear H0;obtain⟨i,hi,rfl,rfl,hK⟩:=hrel;have HK:=bK hK;by_cases hlt:i<cap
  .obtain⟨g,old,rfl,hb,hl⟩:∃g old,ao=some (a_ g 0)/\dh wr g 74 (List.replicate (i*5) (I_ (m+1))++old)/\i*5+old.length=cap*5:=by
    rcases hK.t with ⟨_,h2⟩ | h2
    .omega
    .exact h2
   have d0:=bP 0 hK.d rfl
   have TH:Hid (wr.drew.there g (i*5) 5):=fun j hj=>⟨by
    have z:wr.cell? (a_ g (i*5+j))=some _:=bM hb (gg_ (by simp;omega));show (wr.cell? (a_ g (i*5+j))).isSome=true;rw [z]
    rfl,bL hb (i*5+j)⟩
   have ne1:g≠gd:=T.iB hb hK.d (by decide);have yZ:gd≠g:=fun e=>ne1 e.symm
   have aj5:(i:Int)<cap:=by omega
   have K2:Hid (KT Q gd (some (a_ g 0)) cap (i+1) (I_ (m+1)) (m+1) jh jb k k' xs ys (wr.drew.setCells g (i*5) [(I_ (m+1)),(I_ (m+1)),(I_ (m+1)),(I_ (m+1)),(I_ (m+1))])):=(HK.o.below HQ.o (Br_ _ _).drew).tok HQ.o hlt;have S2:=bK (bM (j:=0) K2.o.d rfl);clear hK hb hl
   go_wp2_with fail
   have S1:wr.drew.cell? (a_ gd 0)=some (I_ (m+1)):=d0;refine wd_ (S:=fun w'=>w'.cell? (a_ gd 0)=some (I_ (m+1))) (by kernel_rfl) S1 (fun dF=>?_);refine bW 0 ?_
   refine bW 1 ?_
   refine bW 2 ?_
   refine bW 3 ?_
   refine bW 4 ?_
   refine bW 5 ?_
   refine bW 6 ?_
   refine bW 7 ?_
   refine bW 8 ?_
   refine bW 9 ?_
   refine bW 10 ?_
   refine bW 11 ?_
   refine bW 12 ?_
   refine bW 13 ?_
   refine bW 14 ?_
   refine bW 15 ?_
   refine bW 16 ?_
   refine bW 17 ?_
   refine bW 18 ?_
   refine bW 19 ?_
   refine bW 20 ?_
   refine bW 21 ?_
   refine bW 22 ?_
   refine bW 23 ?_
   try simp only [gt_,List.getElem_cons_succ,cz_,sb_,sz_,ss_]
   refine fq 24 (fun K hK=>?_);refine FJ rfl 74 (.tmp 46) (.tmp 45) rfl g (i*5) #[(I_ (m+1)),(I_ (m+1)),(I_ (m+1)),(I_ (m+1)),(I_ (m+1))] rfl rfl TH.o Fy (by simp [Value.oneCell']) ?_
   refine hK.out _ _ S2.o (fun fV=>?_);clear hK K;refine wpAnyH_done (by kernel_rfl) ?_ _;clear S1 S2 dF fV d0 TH;generalize wr.drew.setCells g (i*5) #[(I_ (m+1)),(I_ (m+1)),(I_ (m+1)),(I_ (m+1)),(I_ (m+1))].toList=W5 at *;go_wp2;go_roundg (cap-(i+1))
   case measure=>omega
   case rel=>exact⟨i+1,by omega,by go_num,rfl,K2.o⟩
  .have hin:i=cap:=by omega
   subst hin;have d4:=bP 4 hK.d rfl;have d1:=mM i i;have gl:=bO hK.d;have ne1:gd≠wr.heap.size:=by omega
   have yZ:wr.heap.size≠gd:=by omega
   clear hK hlt hi;go_upto_region 7 with (at_builtin;refine wo_ _ rfl (.tmp 51) (.tmp 53) 30 rfl gd 72 it n_ 1 24 Tryz.underlying30 hit ht0 ht1 ht2 rfl (by decide) jh k xs rfl (oa_ HK.o.l _) (a_ wr.heap.size 0) 1 1 [.slice ao i i] rfl rfl (jw rfl) (by intro u hu;simp at hu;subst hu;rfl) (by unfold maxLen;omega) (by omega) (by simp;omega) ?_;intro v2 wa dw bS _;obtain⟨aq,cq,rfl,h5,h6⟩:=T.oo dw;have k1:=(HK.o.below HQ.o (mi (c_ #[.slice ao i i] 72)));have b1:=fK k1.l k1.d (by decide) bS;have c4:=bM (j:=4) b1 rfl;have z4:=bL b1 4);have K2:=bK (k1.list HQ.o bS dw);clear k1 b1 c4 z4 dw bS HK d4 d1 ne1 yZ gl h5 h6;generalize wa.setCell (a_ gd 4) (.slice aq (k+1) cq)=W2 at *;have d0:=bP 0 K2.o.d rfl;have d8:=bP 8 K2.o.d rfl;have gl2:=bO K2.o.d;have ne1:gd≠W2.heap.size:=by omega
   have yZ:W2.heap.size≠gd:=by omega
   have S1:W2.drew.cell? (a_ gd 0)=some (I_ (m+1)):=d0;refine wd_ (S:=fun w'=>w'.cell? (a_ gd 0)=some (I_ (m+1))) (by kernel_rfl) S1 (fun dF=>?_);refine bW 0 ?_
   refine bW 1 ?_
   refine bW 2 ?_
   refine bW 3 ?_
   refine bW 5 ?_
   refine bW 6 ?_
   refine bW 7 ?_
   refine bW 8 ?_
   refine wpAnyH_ready (rs:=[4,9]) (by kernel_rfl) (by simp) ?_
   have K3:=bK (K2.o.below HQ.o ((mi (c_ #[I_ (m+1)] 3)).drew));have S2:(W2.alloc (c_ #[I_ (m+1)] 3)).drew.cell? (a_ gd 0)=some (I_ (m+1)):=bM (j:=0) K3.o.d rfl;refine AllReadyH.cons rfl (fun K hK=>?_) (AllReadyH.cons rfl (fun K hK=>?_) AllReadyH.nil)
   focus
    go_simp
    refine hK.out _ _ dF (fun fV=>?_);clear hK K
    try simp only [Act.put,sb_]
    refine fq 9 (fun K hK=>?_)
   rotate_left
   focus
    have c5':=bM (j:=8) K3.o.d rfl
    go_simp
    refine hK.out _ _ S2 (fun fV=>?_);clear hK K
    try simp only [Act.put,sb_]
    refine fq 4 (fun K hK=>?_)
   all_goals
    go_simp
    refine hK.out _ _ S2 (fun lh=>?_);clear hK K
    try simp only [Act.put,sb_]
    refine fq 10 (fun K hK=>?_);refine sa_ _ (by rfl) _ _ _ (by rfl) gd 3 i3 _ 1 8 Tryz.underlying31 hi3 h30 h31 h32 rfl (by omega) jb k' ys (by rfl) K3.o.n (a_ W2.heap.size 0) 1 1 [I_ (m+1)] (by rfl) (by rfl) (World.news_of_block (cs:=#[I_ (m+1)]) (t:=3) (fr:=(0,0)) (hn_ _ _)) (by simp [Value.oneCell']) (by omega) (by unfold maxLen;omega) (by omega) (by simp;omega) (W2.heap.size+1) (by simp) ?_
    intro g2 fE w2 dw bS jH kV;have HA:=bK jH;clear jH;have kD:=fK K3.o.n K3.o.d (by decide) bS;have VB:=cO kD 8 (s_ g2 (k'+1) fE);refine hK.out _ _ (bM (j:=0) kD rfl) (fun lq=>?_);have k5:=bP 8 kD rfl;have Ps:=bL kD 8;clear hK K
    try simp only [Act.put,sb_]
    refine bW 11 ?_
    refine bW 12 ?_
    refine fq 13 (fun K hK=>?_)
    go_simp
    refine hK.out _ _ (bM (j:=0) VB rfl) (fun oM=>?_);clear hK K;refine wpAnyH_done (by kernel_rfl) ?_ _;have K4:=bK (K3.o.num HQ.o bS dw);clear lq oM kD VB k5 Ps dw bS K3;generalize w2.setCell (a_ gd 8) (s_ g2 (k'+1) fE)=W4 at *;go_wp2
    go_end0
    refine⟨rfl,_,_,K4.o,fun b hb=>?_⟩;cases hb;rcases HA.o with h | h
    .exact .inl h
    .exact .inr ⟨W2,K2.o.q,by show _<=g2;omega⟩
def Hf (all:List aC) (most depth:Int) (w:W_) (e:Ending) (w':W_):Prop:=
 (((1<=most/\most<=64)/\(0<=depth/\depth<=8))/\∃g,e=.returned (.tuple #[p_ g,I_ 0])/\w.heap.size<=g/\B_ w w'/\T.Ds (T.yT w.heap.size g) w' g (xV (lS all) most depth) (rD (lS all)))\/
 (¬((1<=most/\most<=64)/\(0<=depth/\depth<=8))/\e=.returned (.tuple #[.pointer none,I_ 3])/\B_ w w')
theorem FE (g:Nat) (all:List aC) (most depth:Int) (w:W_) (hR:Ru w all g) (wT:∀j,j<Pu.aV all->(fZ all j).length<=42) (_rm:Gh most) (_rd:Gh depth) :
  C_ 35 #[p_ g,I_ most,I_ depth] w (Hf all most depth w):=by
 have RP:Hid (iy (lS all)):=by obtain⟨B,s0,vn,al,cl,k1,k2,k3,k4⟩:=hR;exact uS k1 wT
 have RU:=bK hR;have H42:=bK wT;clear hR wT;go_enter Tryz.func35,Tryz.ntmps35;by_cases m1:most<1
 .have d1:decide (most<1)=true:=dt_ m1;go_wp2
  go_ret2
  exact .inr ⟨fun h=>by omega,rfl,Br_ _ _⟩
 have d1:decide (most<1)=false:=dn_ m1;by_cases m2:64<most
 .have d2:decide (64<most)=true:=dt_ m2;go_wp2
  go_ret2
  exact .inr ⟨fun h=>by omega,rfl,Br_ _ _⟩
 have d2:decide (64<most)=false:=dn_ m2;by_cases m3:depth<0
 .have d3:decide (depth<0)=true:=dt_ m3;go_wp2
  go_ret2
  exact .inr ⟨fun h=>by omega,rfl,Br_ _ _⟩
 have d3:decide (depth<0)=false:=dn_ m3;by_cases m4:8<depth
 .have d4:decide (8<depth)=true:=dt_ m4;go_wp2
  go_ret2
  exact .inr ⟨fun h=>by omega,rfl,Br_ _ _⟩
 have d4:decide (8<depth)=false:=dn_ m4
 have HM:Hid ((1<=most/\most<=64)/\(0<=depth/\depth<=8)):=⟨⟨by omega,by omega⟩,⟨by omega,by omega⟩⟩
 have Z:Hid (dh (w.alloc (c_ #[n_,n_,n_,p_ g,I_ most,I_ depth,.string ⟨#[]⟩,.bool false,I_ 0,I_ 0,I_ 0,I_ 1,I_ 1,I_ 0,I_ 0,I_ 0,I_ 0] 133)) w.heap.size 133 [n_,n_,n_,p_ g,I_ most,I_ depth,.string ⟨#[]⟩,.bool false,I_ 0,I_ 0,I_ 0,I_ 1,I_ 1,I_ 0,I_ 0,I_ 0,I_ 0]):=hn_ _ _;have B1:Hid (B_ w (w.alloc (c_ #[n_,n_,n_,p_ g,I_ most,I_ depth,.string ⟨#[]⟩,.bool false,I_ 0,I_ 0,I_ 0,I_ 1,I_ 1,I_ 0,I_ 0,I_ 0,I_ 0] 133))):=mi _;clear m1 m2 m3 m4;go_wp2
 go_ret2
 obtain⟨f,hf⟩:=adn RP.o HM.o.1 HM.o.2;exact .inl ⟨HM.o,w.heap.size,rfl,di,B1.o,⟨p_ g,n_,n_,f,fun x hx=>(by cases hx),Z.o,⟨all,g,rfl,rfl,RU.o.below B1.o,H42.o⟩,hf,ahB _ _ _⟩⟩
def Live (E:bH) (C:bI):Prop:=C.err=0/\E.ended=false
def Rz (L g:Nat) (E E1:bH) (C:bI) (w:W_) (e:Ending) (w':W_):Prop:=
 ∃D Tk vt E2 code,e=.returned (.tuple #[vt,I_ code])/\w'.ownsRow w.heap.size 74 5 vt Tk.length (eB Tk)/\Ao (T.yT L g) w' g E2 D/\w.grownBy w' (some g)/\E2.s.size<=E1.s.size/\
  (Live E C->E2=E1/\Pu.Runs E1 C D/\D.dV=C.dV++Tk/\code=D.err)/\(¬Live E C->D=C/\Tk=[]/\code=shut true C.err/\(C.err=0->E2=E))
def RJ (L g:Nat) (E E1:bH) (C:bI) (w:W_) (e:Ending) (w':W_):Prop:=
 ∃D Tk vt E2 code,e=.returned (.tuple #[vt,I_ code])/\w'.ownsRow w.heap.size 74 5 vt Tk.length (eB Tk)/\T.Ds (T.yT L g) w' g E2 D/\w.grownBy w' (some g)/\E2.s.size<=E1.s.size/\
  (Live E C->E2=E1/\Pu.Runs E1 (rD E1.p) D/\Tk=D.dV.drop C.dV.length/\code=D.err)/\(¬Live E C->D=C/\Tk=[]/\code=shut true C.err/\(C.err=0->E2=E))
theorem Yv (hE:E.ended=false) (h:qL (T.yT L g) g E1 C w e w'):Rz L g E E1 C w e w':=by
 obtain⟨D,Tk,vt,hr,ht,rfl,ho,hS,hg⟩:=h;refine⟨D,Tk,vt,E1,D.err,rfl,ho,hS,hg,di,fun _=>⟨rfl,hr,ht,rfl⟩,fun hl=>?_⟩;have he:C.err≠0:=fun h=>hl ⟨h,hE⟩
 have hd:C=D:=hr.1.done (zG he);subst hd;refine⟨rfl,?_,?_,fun h=>absurd h he⟩
 .have:=congrArg List.length ht;rw [la_] at this;exact List.eq_nil_of_length_eq_zero (by omega)
 .unfold shut;rw [if_pos he]
theorem TM (hE:E.ended=true) (hz:E.s.size<=E1.s.size) (h:Ao (T.yT L g) w g E C) (hr:zh (shut true C.err) w e w'):Rz L g E E1 C w e w':=by obtain⟨rfl,rfl⟩:=hr;refine⟨C,[],_,E,_,rfl,fT _ _ _ _,h,World.grownBy.refl _ _,hz,fun hl=>?_,fun _=>⟨rfl,rfl,rfl,fun _=>rfl⟩⟩;have:=hl.2;rw [hE] at this;cases this
theorem Yn (L g:Nat) (E:bH) (C:bI) (eZ:Y_) (w:W_) (h:Ao (T.yT L g) w g E C) (hs:E.s.size+eZ.size<=1099511627776) :
  C_ 37 #[p_ g,.string eZ] w (Rz L g E (E.on eZ false) C w):=by
 cases hE:E.ended
 .exact (UK (T.yT L g) g E C eZ w h hE hs).mono fun _ _ k=>Yv hE k
 .exact (UL g E C eZ w h.sc hE).mono fun _ _ k=>TM hE (by rw [mh];omega) h k
theorem Ph (L g:Nat) (E:bH) (C:bI) (w:W_) (h:Ao (T.yT L g) w g E C) (hs:E.s.size<=1099511627776) :
  C_ 39 #[p_ g] w (Rz L g E (E.on fe true) C w):=by
 cases hE:E.ended
 .exact (LP (T.yT L g) g E C w h hE hs).mono fun _ _ k=>Yv hE k
 .exact (LQ g E C w h.sc hE).mono fun _ _ k=>TM hE (by rw [mh];omega) h k
theorem Yw (hl:Live E C) (h:T.zg (T.yT L g) g E1 C w e w'):RJ L g E E1 C w e w':=by obtain⟨D,vo,hr,rfl,ho,hS,hg⟩:=h;exact⟨D,D.dV.drop C.dV.length,vo,E1,D.err,rfl,by rw [List.length_drop];exact ho,hS,hg,di,fun _=>⟨rfl,hr,rfl,rfl⟩,fun k=>absurd hl k⟩
theorem TN (hl:¬Live E C) (hz:E.s.size<=E1.s.size) (h:T.Ds (T.yT L g) w g E C) (hr:T.Dt (shut true C.err) w e w'):RJ L g E E1 C w e w':=by obtain⟨rfl,hb⟩:=hr;exact⟨C,[],_,E,_,rfl,fT _ _ _ _,h.below hb,⟨hb.os,hb.tape,hb.output,hb.size,fun k hk _=>hb.block k hk⟩,hz,fun k=>absurd k hl,fun _=>⟨rfl,rfl,rfl,fun _=>rfl⟩⟩
theorem Ni (h:¬Live E C):C.err≠0\/E.ended=true:=by
 by_cases he:C.err=0
 .right;cases hE:E.ended
  .exact absurd ⟨he,hE⟩ h
  .rfl
 .exact .inl he
theorem abE (L g:Nat) (E:bH) (C:bI) (eZ:Y_) (w:W_) (h:T.Ds (T.yT L g) w g E C) (hs:E.s.size+eZ.size<=1099511627776) :
  C_ 38 #[p_ g,.string eZ] w (RJ L g E (E.on eZ false) C w):=by
 by_cases hl:Live E C
 .exact (T.Nw (T.yT L g) g E C eZ w h hl.1 hl.2 hs).mono fun _ _ k=>Yw hl k
 .exact (T.JL (T.yT L g) g E C eZ w h (Ni hl)).mono fun _ _ k=>TN hl (by rw [mh];omega) h k
theorem UE (L g:Nat) (E:bH) (C:bI) (w:W_) (h:T.Ds (T.yT L g) w g E C) (hs:E.s.size<=1099511627776) :
  C_ 40 #[p_ g] w (RJ L g E (E.on fe true) C w):=by
 by_cases hl:Live E C
 .exact (T.GN (T.yT L g) g E C w h hl.1 hl.2 hs).mono fun _ _ k=>Yw hl k
 .exact (T.Ff (T.yT L g) g E C w h (Ni hl)).mono fun _ _ k=>TN hl (by rw [mh];omega) h k
theorem Ut {f:Nat->Int} {E':bH} {D D':bI} {Tk Tk':List bJ} {t:Y_} {b:Bool} {E2 Ag:bH} {code BH:Int} (gd:Pu.Good E' f) (hr:Pu.Runs E' (rD E'.p) C) (hE:C.err=0->E=E')
  (h1:Live E C->E2=E.on t b/\Pu.Runs (E.on t b) C D/\D.dV=C.dV++Tk/\code=D.err) (h2:¬Live E C->D=C/\Tk=[]/\code=shut true C.err/\(C.err=0->E2=E))
  (k1:Live E' C->Ag=E'.on t b/\Pu.Runs (E'.on t b) (rD (E'.on t b).p) D'/\Tk'=D'.dV.drop C.dV.length/\BH=D'.err) (k2:¬Live E' C->D'=C/\Tk'=[]/\BH=shut true C.err/\(C.err=0->Ag=E')) :
  D'=D/\Tk'=Tk/\BH=code/\(D.err=0->E2=Ag):=by
 by_cases hl:Live E C
 .have e:=hE hl.1;subst e;obtain⟨a1,a2,a3,a4⟩:=h1 hl;obtain⟨b1,b2,b3,b4⟩:=k1 hl;have r:=hr.1.on gd (Wq gd) hl.2 t b;have d:D'=D:=b2.same ⟨r.trans a2.1,a2.2⟩;subst d;exact⟨rfl,by rw [b3,a3,List.drop_left],by rw [b4,a4],fun _=>by rw [a1,b1]⟩
 .have hl':¬Live E' C:=fun k=>hl (by rw [hE k.1];exact k)
  obtain⟨a1,a2,a3,a4⟩:=h2 hl;obtain⟨b1,b2,b3,b4⟩:=k2 hl';subst a1;exact⟨b1,by rw [a2,b2],by rw [a3,b3],fun h=>by rw [a4 h,b4 h,hE h]⟩
structure Gz where
 g:Nat
 gs:Nat
 L:Nat
 L':Nat
 E:bH
 E':bH
 C:bI
structure Tl where
 ao:Option Addr
 cap:Nat
 m:Int
structure GOK (N:Nat) (W:W_) (x:Gz):Prop where
 c:Ao (T.yT x.L x.g) W x.g x.E x.C
 d:T.Ds (T.yT x.L' x.gs) W x.gs x.E' x.C
 same:x.C.err=0->x.E=x.E'
 n1:x.E.s.size<=N
 n2:x.E'.s.size<=N
structure Al where
 s:Y_
 all:List aC
 g:Nat
structure KJ (W:W_) (x:Al):Prop where
 s:x.s=strOfNums (vN (lS x.all))
 r:Ru W x.all x.g
 m:∀j,j<Pu.aV x.all->(fZ x.all j).length<=42
def Be (l:List Al):List V_:=l.flatMap (fun x=>[.string x.s,p_ x.g])
def xW (l:List Gz):List V_:=l.flatMap (fun x=>[p_ x.g,p_ x.gs])
def Far (zs:List Gz) (b:Nat):Prop:=∀x∈zs,¬(x.L<=b/\b<x.g)/\¬(x.L'<=b/\b<x.gs)
structure WQ (N B gw gd:Nat) (iG:List Al) (zs os:List Gz) (ts:List Tl) (mG mR:V_) (W:W_):Prop where
 w:dh W gw 37 [mG,mR,p_ gd]
 im:W.ownsRow gd 57 2 mG iG.length (Be iG)
 sc:W.ownsRow gd 70 2 mR zs.length (xW zs)
 parts:∀x∈ts,Part W x.ao x.cap x.cap (I_ x.m)/\∀g,x.ao=some (a_ g 0)->g<B
 gz:∀x∈os,GOK N W x
 sz:B<=W.heap.size
 pic:∀x∈iG,KJ W x
def Uh (B:Nat) (os:List Gz) (W:W_) (row:Option Nat):Prop:=
 ∀b,row=some b->∀cs t fr,W.heap[b]?=some (c_ cs t fr)->t≠37/\t≠57/\t≠70/\(∀x∈os,x.g≠b/\x.gs≠b)/\(t≠59/\t≠99/\t≠161/\t≠101)/\t≠61/\t≠5/\(t=74->B<=b)/\(t=3->Far os b)
section
variable {N B gw gd:Nat} {iG:List Al} {zs os:List Gz} {ts:List Tl} {mG mR:V_} {W W':W_} {row:Option Nat}
theorem WQ.step (h:WQ N B gw gd iG zs os ts mG mR W) (ho:Uh B os W row) (hg:W.grownBy W' row):WQ N B gw gd iG zs os ts mG mR W':=by
 refine⟨bQ h.w hg (fun e=>(ho gw e.symm _ _ _ h.w).1 rfl),rW h.im hg ?_,rW h.sc hg ?_,fun x hx=>⟨?_,(h.parts x hx).2⟩,fun x hx=>?_,lt_ h.sz hg.size,fun x hx=>⟨(h.pic x hx).s,(h.pic x hx).r.jy (fun b e cs t fr hc=>(ho b e cs t fr hc).2.2.2.2.1.2) hg,(h.pic x hx).m⟩⟩
 .intro g cur _ hc e;exact (ho g e.symm _ _ _ hc).2.1 rfl
 .intro g cur _ hc e;exact (ho g e.symm _ _ _ hc).2.2.1 rfl
 .refine (h.parts x hx).1.jy (fun g xs hg' hb=>bQ hb hg ?_);intro e;have q:=(ho g e.symm _ _ _ hb).2.2.2.2.2.2.2.1 rfl;have:=(h.parts x hx).2 g hg';omega
 .have k:=h.gz x hx;obtain⟨xs,hb⟩:=k.c.fA;obtain⟨ys,hb'⟩:=k.d.fA;refine⟨k.c.jy ⟨fun e=>((ho x.g e.symm _ _ _ hb).2.2.2.1 x hx).1 rfl,?_⟩ hg,k.d.jy ⟨fun e=>((ho x.gs e.symm _ _ _ hb').2.2.2.1 x hx).2 rfl,?_⟩ hg,k.same,k.n1,k.n2⟩
  .intro b e cs t fr hc;have q:=ho b e cs t fr hc;exact⟨q.2.2.2.2.1,q.2.2.2.2.2.1,q.2.2.2.2.2.2.1,fun e=>(q.2.2.2.2.2.2.2.2 e x hx).1⟩
  .intro b e cs t fr hc;have q:=ho b e cs t fr hc;exact⟨q.2.2.2.2.1,q.2.2.2.2.2.1,q.2.2.2.2.2.2.1,fun e=>(q.2.2.2.2.2.2.2.2 e x hx).2⟩
theorem WQ.apart (h:WQ N B gw gd iG zs os ts mG mR W) {cs:Array V_} {t:TypeId} {fr:Nat × Nat} (hb:W.heap[g]?=some (c_ cs t fr)) (h1:t≠177) (h2:t≠133):∀x∈os,x.g≠g/\x.gs≠g:=by
 intro x hx;have k:=h.gz x hx;obtain⟨xs,b1⟩:=k.c.fA;obtain⟨ys,b2⟩:=k.d.fA;unfold dh at b1 b2;refine⟨fun e=>?_,fun e=>?_⟩
 .rw [e,hb] at b1;cases b1
  exact h1 rfl
 .rw [e,hb] at b2;cases b2
  exact h2 rfl
def OQ (B:Nat) (os:List Gz) (t b:Nat):Prop:=t≠37/\t≠57/\t≠70/\t≠177/\t≠133/\(t≠59/\t≠99/\t≠161/\t≠101)/\t≠61/\t≠5/\(t=74->B<=b)/\(t=3->Far os b)
theorem WQ.aht (h:WQ N B gw gd iG zs os ts mG mR W) (ht:∀b,row=some b->∃cs t fr,W.heap[b]?=some (c_ cs t fr)/\OQ B os t b):Uh B os W row:=by
 intro b e cs t fr hc;obtain⟨cs',t',fr',hc',q⟩:=ht b e;rw [hc'] at hc;cases hc
 exact⟨q.1,q.2.1,q.2.2.1,h.apart hc' q.2.2.2.1 q.2.2.2.2.1,q.2.2.2.2.2.1,q.2.2.2.2.2.2.1,q.2.2.2.2.2.2.2.1,q.2.2.2.2.2.2.2.2.1,q.2.2.2.2.2.2.2.2.2⟩
theorem Nl (h:WQ N B gw gd iG zs os ts mG mR W) {t:Nat} {xs:List V_} (hb:dh W g t xs) (ht:OQ B os t g):Uh B os W (some g):=
 h.aht (fun b e=>by cases e;exact⟨_,_,_,hb,ht⟩)
theorem Nn (h:WQ N B gw gd iG zs os ts mG mR W) {base e size n:Nat} {v:V_} {xs:List V_} (ho:W.ownsRow base e size v n xs) (ht:∀b,v.ownBlock=some b->OQ B os e b):Uh B os W v.ownBlock:=
 h.aht (fun b hb=>by
  rcases ho.2 with ⟨rfl,_⟩ | ⟨g,cap,cur,rfl,_,h4,_⟩
  .cases hb
  .cases hb
   exact⟨_,_,_,h4,ht _ rfl⟩)
theorem WQ.lets {ao:Option Addr} {jh jb:V_} (hao:∀g,ao=some (a_ g 0)->B<=g) (hf:∀b,jb.ownBlock=some b->Far os b):Cg gd ao jh jb (WQ N B gw gd iG zs os ts mG mR) where
 below:=fun W W' h hb=>by refine h.step (row:=none) (fun b e=>by cases e) ⟨hb.os,hb.tape,hb.output,hb.size,fun k hk _=>hb.block k hk⟩
 drawer:=fun W j u xs h hb=>h.step (Nl h hb ⟨by decide,by decide,by decide,by decide,by decide,by decide,by decide,by decide,fun e=>absurd e (by decide),fun e=>absurd e (by decide)⟩) (gs_ W gd j u)
 token:=fun W g j u xs h ha hb=>h.step (Nl h hb ⟨by decide,by decide,by decide,by decide,by decide,by decide,by decide,by decide,fun _=>hao g ha,fun e=>absurd e (by decide)⟩) (gs_ W g j u)
 lists:=fun W W' n xs h ho hg=>h.step (Nn h ho (fun _ _=>⟨by decide,by decide,by decide,by decide,by decide,by decide,by decide,by decide,fun e=>absurd e (by decide),fun e=>absurd e (by decide)⟩)) hg
 numbers:=fun W W' n xs h ho hg=>h.step (Nn h ho (fun b hb=>⟨by decide,by decide,by decide,by decide,by decide,by decide,by decide,by decide,fun e=>absurd e (by decide),fun _=>hf b hb⟩)) hg
end
structure WI (N gw gd:Nat) (iG:List Al) (zs:List Gz) (ts:List Tl) (n:Int) (mG mR jh jb:V_) (W:W_):Prop where
 q:WQ N W.heap.size gw gd iG zs zs ts mG mR W
 d:dh W gd 33 (drC n jh jb)
 tl:W.ownsRow gd 72 1 jh ts.length (ts.map fun x=>.slice x.ao x.cap x.cap)
 tn:W.ownsRow gd 3 1 jb ts.length (bY (ts.map (·.m)))
 yV:∀b,jb.ownBlock=some b->Far zs b
 ap:∀(i j:Nat) (x y:Gz),zs[i]?=some x->zs[j]?=some y->i≠j->x.g≠y.g/\x.gs≠y.gs
 up:gd<=gw/\∀x∈zs,gd<=x.g/\gd<=x.gs
section
variable {N N' B B' gw gd:Nat} {iG:List Al} {zs os os':List Gz} {ts:List Tl} {n:Int} {mG mR jh jb:V_} {W W1 W2:W_}
theorem WQ.less (h:WQ N B gw gd iG zs os ts mG mR W) (ho:∀x∈os',x∈os):WQ N B gw gd iG zs os' ts mG mR W:=⟨h.w,h.im,h.sc,h.parts,fun x hx=>h.gz x (ho x hx),h.sz,h.pic⟩
theorem WQ.more (h:WQ N B gw gd iG zs os ts mG mR W) (h1:B<=B') (h2:B'<=W.heap.size):WQ N B' gw gd iG zs os ts mG mR W:=
 ⟨h.w,h.im,h.sc,fun x hx=>⟨(h.parts x hx).1,fun g e=>Nat.lt_of_lt_of_le ((h.parts x hx).2 g e) h1⟩,h.gz,h2,h.pic⟩
theorem LU (zs:List Gz) (i:Nat) (x y:Gz) (hx:zs[i]?=some x) (h1:y.g=x.g) (h2:y.gs=x.gs):xW (zs.set i y)=xW zs:=by
 induction zs generalizing i with
 | nil=>rfl
 | cons z r ih=>
  cases i with
  | zero=>simp at hx;subst hx;simp [xW,h1,h2]
  | succ i=>have:=ih i (by simpa using hx);simp only [ss_];show xW _=_;unfold xW at *;simp only [List.flatMap_cons,this]
theorem tQ {zs:List Gz} {i:Nat} {y z:Gz} (h:z∈zs.set i y):z=y\/∃j,j≠i/\zs[j]?=some z:=by
 obtain⟨j,hj⟩:=gf_ h;rw [List.getElem?_set] at hj;split at hj
 .split at hj
  .exact .inl (by cases hj;rfl)
  .cases hj
 .rename_i hne
  exact .inr ⟨j,fun e=>hne e.symm,hj⟩
theorem abF {i:Nat} {x y:Gz} (hx:zs[i]?=some x) (h1:y.g=x.g) (h2:y.gs=x.gs) (h3:y.L=x.L) (h4:y.L'=x.L') {b:Nat} (h:Far zs b):Far (zs.set i y) b:=by
 intro z hz;rcases tQ hz with rfl | ⟨j,_,hj⟩
 .rw [h1,h2,h3,h4];exact h x (mg_ hx)
 .exact h z (mg_ hj)
theorem WI.agI (h:WI N gw gd iG zs ts n mG mR jh jb W) {i:Nat} {x:Gz} (hx:zs[i]?=some x) {E2 Ag:bH} {D:bI} (hg1:W.grownBy W1 (some x.g)) (hc:Ao (T.yT x.L x.g) W1 x.g E2 D) (hg2:W1.grownBy W2 (some x.gs)) (hd:T.Ds (T.yT x.L' x.gs) W2 x.gs Ag D) (hs:D.err=0->E2=Ag) (hN:N<=N') (n1:E2.s.size<=N') (n2:Ag.s.size<=N') :
  WI N' gw gd iG (zs.set i { x with E:=E2,E':=Ag,C:=D }) ts n mG mR jh jb W2:=by
 have kx:=h.q.gz x (mg_ hx);obtain⟨xs,b1⟩:=kx.c.fA;obtain⟨ys,b2⟩:=kx.d.fA;obtain⟨ys',b2'⟩:=hd.fA;have b2w:dh W1 x.gs 133 ys:=bQ b2 hg1 (fun e=>T.iB b2 b1 (by decide) (oi_ e));have oth:∀z∈zs.eraseIdx i,z∈zs/\z.g≠x.g/\z.gs≠x.gs:=fun z hz=>by rw [List.mem_eraseIdx_iff_getElem?] at hz;obtain⟨j,hj,hz⟩:=hz;have:=h.ap j i z x hz hx hj;exact⟨mg_ hz,this.1,this.2⟩
 have aW:WQ N W.heap.size gw gd iG zs (zs.eraseIdx i) ts mG mR W:=h.q.less (fun z hz=>(oth z hz).1);have ok1:Uh W.heap.size (zs.eraseIdx i) W (some x.g):=by intro b e cs t fr hcs;cases e;unfold dh at b1;rw [b1] at hcs;cases hcs;refine⟨by decide,by decide,by decide,fun z hz=>⟨(oth z hz).2.1,fun e=>?_⟩,by decide,by decide,by decide,fun e=>absurd e (by decide),fun e=>absurd e (by decide)⟩;obtain⟨zs',bz⟩:=(aW.gz z hz).d.fA;rw [e] at bz;unfold dh at bz;rw [b1] at bz;simp at bz
 have q1:=aW.step ok1 hg1;have Xe:Uh W.heap.size (zs.eraseIdx i) W1 (some x.gs):=by intro b e cs t fr hcs;cases e;unfold dh at b2w;rw [b2w] at hcs;cases hcs;refine⟨by decide,by decide,by decide,fun z hz=>⟨fun e=>?_,(oth z hz).2.2⟩,by decide,by decide,by decide,fun e=>absurd e (by decide),fun e=>absurd e (by decide)⟩;obtain⟨zs',bz⟩:=(q1.gz z hz).c.fA;rw [e] at bz;unfold dh at bz;rw [b2w] at bz;simp at bz
 have q2:=q1.step Xe hg2;have c2:Ao (T.yT x.L x.g) W2 x.g E2 D:=by obtain⟨us,bu⟩:=hc.fA;refine hc.jy ⟨fun e=>T.iB bu b2w (by decide) (oi_ e),fun b e cs t fr hcs=>?_⟩ hg2;cases e;unfold dh at b2w;rw [b2w] at hcs;cases hcs;exact⟨by decide,by decide,by decide,fun e=>absurd e (by decide)⟩
 have agH:∀{base e size m:Nat} {v:V_} {us:List V_},W.ownsRow base e size v m us->e≠177->e≠133->W2.ownsRow base e size v m us:=by intro base e size m v us ho h1 h2;exact dM (dM ho b1 (fun e=>h1 e.symm) hg1) b2w (fun e=>h2 e.symm) hg2
 have sz:W.heap.size<=W2.heap.size:=lt_ hg1.size hg2.size;refine⟨⟨q2.w,q2.im,?_,fun z hz=>⟨(q2.parts z hz).1,fun g e=>Nat.lt_of_lt_of_le ((q2.parts z hz).2 g e) sz⟩,fun z hz=>?_,di,q2.pic⟩,?_,agH h.tl (by decide) (by decide),agH h.tn (by decide) (by decide),fun b hb=>abF (y:={ x with E:=E2,E':=Ag,C:=D }) hx rfl rfl rfl rfl (h.yV b hb),?_,h.up.1,fun z hz=>?_⟩
 .rw [LU zs i x { x with E:=E2,E':=Ag,C:=D } hx rfl rfl,le_];exact q2.sc
 .rcases tQ hz with rfl | ⟨j,hj,hz'⟩
  .exact⟨c2,hd,hs,n1,n2⟩
  .have k:=q2.gz z (by rw [List.mem_eraseIdx_iff_getElem?];exact⟨j,hj,hz'⟩);exact⟨k.c,k.d,k.same,lt_ k.n1 hN,lt_ k.n2 hN⟩
 .have d1:=bQ h.d hg1 (fun e=>T.iB h.d b1 (by decide) (oi_ e));exact bQ d1 hg2 (fun e=>T.iB d1 b2w (by decide) (oi_ e))
 .intro a b u v hu hv hab
  have key:∀(c:Nat) (z:Gz),(zs.set i { x with E:=E2,E':=Ag,C:=D })[c]?=some z->∃z',zs[c]?=some z'/\z.g=z'.g/\z.gs=z'.gs:=by
   intro c z hc;rw [List.getElem?_set] at hc;split at hc
   .rename_i e
    subst e;split at hc
    .cases hc
     exact⟨x,hx,rfl,rfl⟩
    .cases hc
   .exact⟨z,hc,rfl,rfl⟩
  obtain⟨u',hu',e1,e2⟩:=key a u hu;obtain⟨v',hv',e3,e4⟩:=key b v hv;rw [e1,e2,e3,e4];exact h.ap a b u' v' hu' hv' hab
 .rcases tQ hz with rfl | ⟨j,hj,hz'⟩
  .exact h.up.2 x (mg_ hx)
  .exact h.up.2 z (mg_ hz')
end
end Go.Proofs.YtmccnmgaoppogaaGreat
