import Derived.Test.YtmccnmgaoppogaaGreatF4A
namespace Go.Proofs.YtmccnmgaoppogaaGreat
open Pu
set_option linter.all false
set_option maxRecDepth 100000
set_option maxHeartbeats 8000000
open Go.RowKit
variable {B B' g n size:Nat} {xs:List V_} {ss:List aN} {ps:List Pu.aJ} {ready:List Nat} {W:W_} {v:V_}
theorem acx {w:W_} {base e m cap:Nat} (h:w.ownsRow base e size (s_ g n cap) m xs) (j:Nat):w.frozen? (a_ g j)=false:=by
 rcases h.2 with ⟨e1,_⟩ | ⟨g',cap',cur,e1,_,e3,_⟩
 .cases e1
 .injection e1 with e2
  injection e2 with e4;injection e4 with e5;subst e5;exact bL (t:=e) (xs:=cur.toList) (by simpa [dh] using e3) j
theorem Jz (l:List Nat) (b n:Nat):(bV l).set b (I_ n)=bV (l.set b n):=by unfold bV;rw [List.map_set]
theorem acO {ts:List (aN × V_)} (h:∀t∈ts,t.1.longer.length=256) {p b:Nat} {q:aN × V_} (hp:ts[p]?=some q) (hb:b<256):(Od ts).set (p*257+1+b) (I_ n)=Od (ts.set p ({ q.1 with longer:=q.1.longer.set b n },q.2)):=by
 rw [Nat.add_assoc]
 induction ts generalizing p with
 | nil=>simp at hp
 | cons z r ih=>
  have hz:=lU (h z (ms_ ..))
  cases p with
  | zero=>rw [List.getElem?_cons_zero] at hp;cases hp;rw [sz_,xC,xC,Nat.zero_mul,Nat.zero_add,List.set_append_left _ _ (by omega)];congr 1;unfold nS;rw [show 1+b=b+1 by omega,ss_,Jz]
  | succ p=>rw [cs_] at hp;rw [ss_,xC,xC,List.set_append_right _ _ (by omega),hz,show (p+1)*257+(1+b)-257=p*257+(1+b) by omega,ih (fun t ht=>h t (mc_ _ ht)) hp]
theorem Fd.je {B g:Nat} {ps:List Pu.aJ} {ss:List aN} {vp:V_} {gs n cap:Nat} {ts:List (aN × V_)} {W:W_} (h:Fd B g ps ss vp (s_ gs n cap) ts W) {fr b m:Nat} {x:aN} (hk:ss[fr]?=some x) (hb:b<256) :
  (∃ts',Fd B g ps (Pu.je ss fr b m) vp (s_ gs n cap) ts' (W.setCell (a_ gs (fr*257+1+b)) (I_ m)))/\Sk B W (W.setCell (a_ gs (fr*257+1+b)) (I_ m)):=by
 obtain⟨gs',cap',a,nn,c,ev,hq,_,_,_⟩:=h.get hk;cases ev
 have hn:ss.length=ts.length:=h.len.symm;have hg:=gs_ W gs (fr*257+1+b) (I_ m);have own:=h.own;rw [hn] at own;have K:Sk B W (W.setCell (a_ gs (fr*257+1+b)) (I_ m)):=Sk.row own (by have:=h.up;have:=bO h.aQ;omega) hg;have hl:fr<ts.length:=(ge_.1 hq).1;have mem:∀t∈ts.set fr ({ x with longer:=x.longer.set b m },.slice a nn c),(t∈ts\/t=({ x with longer:=x.longer.set b m },.slice a nn c)):=fun t ht=>List.mem_or_eq_of_mem_set ht
 refine⟨⟨ts.set fr ({ x with longer:=x.longer.set b m },.slice a nn c),?_⟩,K⟩;refine⟨?_,h.up,K.plm h.pl,?_,?_,fun t ht=>?_,fun t ht=>?_⟩
 .refine dB h.aQ (fun e=>?_) _ _;rcases own.2 with ⟨e1,_⟩ | ⟨g',cap'',cur,e1,_,e3,_⟩
  .cases e1
  .cases e1
   have aQ:=h.aQ;unfold dh at aQ;rw [e] at aQ;rw [aQ] at e3;cases e3
 .rw [hn,le_];have:=JG (j:=fr*257+1+b) (u:=I_ m) own;rw [acO h.ln hq hb] at this;exact this
 .unfold Pu.je;rw [EH _ hk,<-h.ss,List.map_set]
 .rcases mem t ht with k | k
  .exact K.jF (h.nx t k)
  .subst k;exact K.jF (h.nx (x,.slice a nn c) (mg_ hq))
 .rcases mem t ht with k | k
  .exact h.ln t k
  .subst k;simp only [le_];exact h.ln (x,.slice a nn c) (mg_ hq)
namespace Pu
theorem EO (ss:List aN) (t:List Nat):ss.length<=(gJ ss t).length/\(gJ ss t).length<=ss.length+1:=by
 unfold gJ;split
 .omega
 .simp
theorem NU (ss:List aN) (fr b n:Nat):(je ss fr b n).length=ss.length:=by simp [je]
theorem PY (ps:List aJ) (ready:List Nat) (fr:Nat) (ss:List aN) (b:Nat):ss.length<=(nP ps ready fr ss b).length/\(nP ps ready fr ss b).length<=ss.length+1:=by unfold nP;rw [NU];exact EO _ _
theorem yF (ps:List aJ) (ready:List Nat) (fr:Nat) (ss:List aN) (k:Nat):mD ps ready fr ss (k+1)=nP ps ready fr (mD ps ready fr ss k) k:=by unfold mD;rw [List.range_succ,List.foldl_append];rfl
theorem AO (ps:List aJ) (ready:List Nat) (fr:Nat) (ss:List aN):∀k,ss.length<=(mD ps ready fr ss k).length/\(mD ps ready fr ss k).length<=ss.length+k:=by
 intro k
 induction k with
 | zero=>exact⟨di,di⟩
 | succ k ih=>have:=PY ps ready fr (mD ps ready fr ss k) k;rw [yF];omega
def Ch (n:Nat) (ss:List aN):Prop:=∀x∈ss,sJ n x.places
theorem VI {t:List Nat} (h:Ch n ss) (ht:sJ n t):Ch n (gJ ss t):=by
 unfold gJ;split
 .exact h
 .intro x hx;rcases ma_.1 hx with k | k
  .exact h x k
  .simp at k;subst k;exact ht
theorem QO (fr b m:Nat) (h:Ch n ss):Ch n (je ss fr b m):=by
 intro x hx;obtain⟨i,hi⟩:=gf_ hx;unfold je at hi;rw [List.getElem?_modify] at hi
 cases hs:ss[i]? with
 | none=>rw [hs] at hi;cases hi
 | some y=>
  rw [hs] at hi;have hk:=h y (mg_ hs);split at hi
  .cases hi
   exact hk
  .cases hi
   exact hk
theorem Vp {ps:List aJ} {fr:Nat} {b:Nat} (h:Ch n ss) (hr:sJ n ready):Ch n (nP ps ready fr ss b):=QO _ _ _ (VI h (sF ps b hr))
theorem Ew {ps:List aJ} {fr:Nat} (h:Ch n ss) (hr:sJ n ready):∀k,Ch n (mD ps ready fr ss k):=by
 intro k
 induction k with
 | zero=>exact h
 | succ k ih=>rw [yF];exact Vp ih hr
end Pu
def af0 (B g:Nat) (ps:List Pu.aJ) (ss':List aN) (w:W_) (e:Ending) (w':W_):Prop:=
 e=.returned (.tuple #[])/\Sk B w w'/\∃vp vs ts,Fd B g ps ss' vp vs ts w'
theorem Io (B g:Nat) (ps:List Pu.aJ) (ss:List aN) (vp vs:V_) (ts:List (aN × V_)) (vr:V_) (fr:Nat) (ready:List Nat) (w:W_) (h:Fd B g ps ss vp vs ts w) (hl:ss.length<=100) (hpl:ps.length<=1000) (hf:fr<ss.length) (hr:ed w vr ready) (hi:sJ ps.length ready) (hss:Ch ps.length ss) :
  C_ 84 #[p_ g,I_ fr,vr] w (af0 B g ps (mD ps ready fr ss 256) w):=by
 have F0:Hid (Sk B w w/\∃vp vs ts,Fd B g ps (mD ps ready fr ss 0) vp vs ts w):=⟨Sk.refl _ _,vp,vs,ts,h⟩
 have BL:B<=w.heap.size:=by have:=h.up;have:=bO h.aQ;omega
 have HR:=bK hr;have HI:=bK hi;have HS:=bK hss;clear h hr hi hss;go_enter Tryz.func84,Tryz.ntmps84
 go_wp2_with fail
 go_loopg [6,7,8] 256 (fun gk bv _ _ wx=>∃b:Nat,b<=256/\gk=256-b/\bv=I_ b/\Sk B w wx/\∃vp vs ts,Fd B g ps (mD ps ready fr ss b) vp vs ts wx)
 case atStart=>exact⟨0,zl_ _,rfl,rfl,F0.o⟩
 case round=>
  clear F0;obtain⟨b,bl,rfl,rfl,hsk,OG,vs1,ts1,Xb⟩:=hrel;have SK:=bK hsk;have FD:=bK Xb;clear hsk Xb;by_cases hlt:b<256
  .have d1:decide ((b:Int)<256)=true:=dt_ (by omega);have ln:=AO ps ready fr ss b;have OKB:=bK (Ew (fr:=fr) (ps:=ps) HS.o HI.o b);have wi:=kg b;have pE:=bK (yF ps ready fr ss b);have BLr:B<=wr.heap.size:=lt_ BL SK.o.lo.size;have TI:=bK (sF ps b HI.o);generalize hsb:mD ps ready fr ss b=sb at *
   go_wp2_with fail
   refine (Q5 B g ps sb OG vs1 ts1 vr ready b wr FD.o hpl (SK.o.jF HR.o) HI.o hlt).mono ?_
   rintro e w1 ⟨t1,rfl,hb1,ho1⟩;have F1:=bK (FD.o.below hb1);have S1:=bK (SK.o.trans (.below BLr hb1));have N1:Hid (ed w1 t1 (Pu.taking ps ready b)):=dH ho1 (zl_ _);clear hb1 ho1 FD SK;have tl:=TI.o.len
   go_wp2_with fail
   refine (Qn B g ps sb OG vs1 ts1 t1 (Pu.taking ps ready b) w1 F1.o (by omega) N1.o (by omega) (fun x hx=>by have:=(OKB.o x hx).len;omega)).mono ?_
   rintro e w2 ⟨rfl,hs2,vp2,vs2,ts2,hf2⟩;have S2:=bK (S1.o.trans hs2);have F2:=bK hf2;have nl:=EO sb (Pu.taking ps ready b);obtain⟨x,hx⟩:∃x,(gJ sb (Pu.taking ps ready b))[fr]?=some x:=⟨_,gg_ (by omega)⟩;obtain⟨gs,cap,ax,nx,cx,ev,_,hrg,_,hlg⟩:=hf2.get hx;subst ev;obtain⟨⟨ts3,hf3⟩,hk3⟩:=hf2.je (m:=iI (Pu.taking ps ready b) sb) hx hlt;have F3:=bK hf3;have S3:=bK (S2.o.trans hk3);have c1:=bP 1 hf2.aQ rfl;have abU:b<x.longer.length:=by omega
   have old:=hrg (1+b) (I_ (x.longer[b]'abU:Nat)) (by
    rw [show 1+b=b+1 by omega];show (bV x.longer)[b]?=_
    exact iD (gg_ abU))
   rw [<-Nat.add_assoc] at old;have frz:=acx hf2.own (fr*257+1+b);generalize hov:x.longer[b]'abU=ov at old;clear hov hs2 hf2 hrg hlg abU hx hf3 hk3 F1 S1 N1 F2 S2;have ST2:Hid (nP ps ready fr sb b=Pu.je (gJ sb (Pu.taking ps ready b)) fr b (iI (Pu.taking ps ready b) sb)):=rfl;generalize iI (Pu.taking ps ready b) sb=num at *;have ib0:=jg b;have ib1:(b:Int)<256:=by omega
   have if0:=jg fr;have if1:(fr:Int)<((gJ sb (Pu.taking ps ready b)).length:Int):=by omega
   go_wp2;go_roundg (256-(b+1))
   case measure=>omega
   case rel=>exact⟨b+1,by omega,rfl,by go_num,S3.o,_,_,ts3,by rw [pE.o,ST2.o];exact F3.o⟩
  .have d1:decide ((b:Int)<256)=false:=dn_ (by omega);have e:b=256:=by omega
   subst e;go_wp2
   go_end0
   exact⟨rfl,SK.o,_,_,_,FD.o⟩
def qB (B:Nat) (W:W_) (v:V_) (ss:List aN):Prop:=∃ts,W.ownsRow B 142 257 v ts.length (Od ts)/\ts.map (·.1)=ss/\(∀t∈ts,ed W t.2 t.1.places)/\∀t∈ts,t.1.longer.length=256
theorem Fd.Wj {vp vs:V_} {ts:List (aN × V_)} (h:Fd B g ps ss vp vs ts W):qB B W vs ss:=⟨ts,h.own,h.ss,h.nx,h.ln⟩
theorem qB.below {B:Nat} {W W':W_} {v:V_} {ss:List aN} (h:qB B W v ss) (hb:B_ W W'):qB B W' v ss:=by obtain⟨ts,h1,h2,h3,h4⟩:=h;exact⟨ts,bU h1 hb di,h2,fun t ht=>(h3 t ht).below hb,h4⟩
theorem xD {P:Program} (w:W_) {ops:Array Oper} {o:Oper} {a:Act} {K:Act->W_->Prop} {Q:Exit->Act->W_->Prop} {E:Prop}
  (hg:o.guard=none) (l c:Operand) (t:TypeId) (hop:o.op=Op.makeSlice t l c)
  (base:Nat) (e:TypeId) (i:TypeInfo) (z:V_) (size:Nat) (h1:P.underlying t=some (.slice e)) (h2:P.info? e=some i) (h3:i.zero=some z) (h4:i.size=size)
  (kl kc:IntKind) (L C:Int) (n:Nat) (hl:a.eval l=.int kl L) (hc:a.eval c=.int kc C) (hL:L=(n:Int)) (hC:C=(n:Int)) (b2:i.bytes*n<=281474976710656) (b3:n<=maxLen) (b4:base<=w.heap.size)
  (hK:∀w',w'.ownsRow base e size (s_ w.heap.size n n) n (madeCells z.cells (n*size)).toList->w.grownBy w' none->K (a.put o.dst (s_ w.heap.size n n)) w') :
  if Region.wanted o (yielded ops a.tmps)=true then Oper.wp P o a w K Q else E:=by
 have hw:Region.wanted o (yielded ops a.tmps)=true:=by simp [Region.wanted,hg]
 rw [if_pos hw];obtain⟨w',hrun,r1,r2⟩:=run_make_full (P:=P) w base t e i z size h1 h2 h3 h4 kl kc n b2 b3 b4;subst hL;subst hC;unfold Oper.wp;simp [execOp,hop,hl,hc,hrun,Result.andThen];exact hK w' r1 r2
def ts0:List (aN × V_):=[(⟨[],Pu.jU⟩,n_),(⟨[],Pu.jU⟩,n_)]
theorem ady:(madeCells (Value.agg xz.toArray).cells (2*257)).toList=Od ts0:=by kernel_rfl
def aa9 (ss:List aN) (w:W_) (e:Ending) (w':W_):Prop:=
 B_ w w'/\((ss.length<=42/\∃vs,e=.returned (.tuple #[vs,.bool true])/\qB w.heap.size w' vs ss)\/(42<ss.length/\e=.returned (.tuple #[n_,.bool false])))
theorem uV {w w':W_} (h:w.grownBy w' none):B_ w w':=(Br_ _ _).grown h di (fun k e=>by cases e)
namespace Pu
end Pu
theorem Nv (h:Dm B W v ps):Dm 0 W v ps:=by obtain⟨qs,h1,h2,h3⟩:=h;exact⟨qs,dH h1 (zl_ _),h2,h3⟩
theorem Oh (W:W_):∀t∈ts0,ed W t.2 t.1.places:=by intro t ht;simp [ts0] at ht;subst ht;exact ed.nil _
theorem Ou:Pu.jU.length=256:=by unfold Pu.jU;rw [lp_]
theorem TV:∀t∈ts0,t.1.longer.length=256:=by intro t ht;simp [ts0] at ht;subst ht;exact Ou
theorem Yx (B:Nat) (md mode:Int) (al ap:Option Addr) (nl cl np cp:Nat) (ls:List aD) (ps:List Pu.aJ) (w:W_) (hL:Lm B w (.slice al nl cl) ls) (hP:Dm B w (.slice ap np cp) ps) (hok:iU ps) (hl:ps.length<=1000) (hll:ls.length<=1000) (hlo:∀x∈ls,mI ps.length x.pt) :
  C_ 54 #[.agg #[I_ md,.slice al nl cl,.slice ap np cp],I_ mode] w (aa9 (pJ ls ps mode) w):=by
 obtain⟨is,his,hz0,hz1,hz2⟩:=ip_ xA;have hb0:=(Br_ w.heap.size w).alloc di (c_ #[I_ md,.slice al nl cl,.slice ap np cp] 78);have HL:=bK (hL.below hb0);have HP:=bK (hP.below hb0);have B0:=bK hb0;have TB:Hid (dh (w.alloc (c_ #[I_ md,.slice al nl cl,.slice ap np cp] 78)) w.heap.size 78 [I_ md,.slice al nl cl,.slice ap np cp]):=hn_ _ _;have OK:=bK hok;have LO:=bK hlo;clear hL hP hok hlo hb0;go_enter Tryz.func54,Tryz.ntmps54;go_upto_region 1 with (fail)
 generalize w.alloc (c_ #[I_ md,.slice al nl cl,.slice ap np cp] 78)=W0 at *;generalize hgT:w.heap.size=gT at *
 go_cut [6] (fun v wx=>∃g vs ts,v=p_ g/\B_ W0 wx/\Fd W0.heap.size g ps Oc (.slice ap np cp) vs ts wx)
 case first=>
  have t2:W0.drew.cell? (a_ gT 2)=some (.slice ap np cp):=bM (j:=2) TB.o rfl;have gtl:=bO TB.o;refine wd_ (S:=fun w'=>w'.cell? (a_ gT 2)=some (.slice ap np cp)) (by kernel_rfl) t2 (fun dF=>?_);refine bW 0 ?_
  refine bW 1 ?_
  refine xY 2 4 (fun K hK=>?_) (fun K hK=>?_)
  focus
   refine xD _ rfl _ _ 87 rfl W0.heap.size 142 is (.agg xz.toArray) 257 Tryz.underlying87 his hz0 hz1 _ _ _ _ 2 rfl rfl rfl rfl (by omega) (by unfold maxLen;omega) di ?_
   intro w1 nZ kN;have hb1:=uV kN;have bA:B_ W0 w1:=iT (Br_ W0.heap.size W0).drew hb1;have tA:=bN TB.o bA gtl;have t3:=bP 2 tA rfl;rw [ady] at nZ;have O1:=bK nZ;have BA:=bK bA;have TA:=bK tA;clear nZ kN hb1 bA tA;refine hK.out _ _ t3 (fun fV=>?_);clear hK K
   try simp only [nU,Act.put]
   refine bW 3 ?_
   refine fq 4 (fun K hK=>?_)
   go_simp
   have tlt:=bO TA.o;have t4:=bP 2 (dx TA.o (c_ #[n_,n_] 189)) rfl
  rotate_left
  focus
   go_simp
   have hb1:B_ W0 (W0.alloc (c_ #[n_,n_] 189)).drew:=((Br_ W0.heap.size W0).alloc di _).drew;have FB1:Hid (dh (W0.alloc (c_ #[n_,n_] 189)).drew W0.heap.size 189 [n_,n_]):=hn_ W0 _;have TA:=bK (bN TB.o hb1 gtl);have t3:=bP 2 TA.o rfl;have B1:=bK hb1;clear hb1;refine hK.out _ _ t3 (fun fV=>?_);clear hK K;generalize (W0.alloc (c_ #[n_,n_] 189)).drew=W1 at *
   try simp only [nU,Act.put]
   refine fq 2 (fun K hK=>?_);refine xD _ rfl _ _ 87 rfl W0.heap.size 142 is (.agg xz.toArray) 257 Tryz.underlying87 his hz0 hz1 _ _ _ _ 2 rfl rfl rfl rfl (by omega) (by unfold maxLen;omega) B1.o.size ?_
   intro w2 dw bS;have hb2:=uV bS;have tA2:=bN TA.o hb2 (bO TA.o);have fb2:=bN FB1.o hb2 (bO FB1.o);have t4:=bP 2 tA2 rfl;rw [ady] at dw;have O2:=bK dw;have B2:=bK (iT B1.o hb2);have T2:=bK tA2;have FB2:=bK fb2;clear dw bS hb2 tA2 fb2 B1 TA FB1
  rotate_left
  all_goals
   refine hK.out _ _ t4 (fun lh=>?_);clear hK K
   try simp only [nU,Act.put]
  focus
   refine fq 5 (fun K hK=>?_)
   go_simp
   have t5:=bP 2 (dx TA.o (c_ #[.slice ap np cp,s_ W0.heap.size 2 2] 189)) rfl
  rotate_left
  focus
   refine bW 3 ?_
   refine fq 5 (fun K hK=>?_);have k0:=bP 0 FB2.o rfl;have k1:=bP 1 FB2.o rfl;have kf0:=bL FB2.o 0;have kf1:=bL FB2.o 1;have gne:gT≠W0.heap.size:=by omega
   go_simp
   have g5:w2.grownBy ((w2.setCell (a_ W0.heap.size 0) (.slice ap np cp)).setCell (a_ W0.heap.size 1) (s_ W1.heap.size 2 2)) (some W0.heap.size):=(gs_ w2 W0.heap.size 0 _).trans (gs_ _ W0.heap.size 1 _);have t5:=bP 2 (bQ T2.o g5 (fun e=>gne (oi_ e))) rfl
  rotate_left
  all_goals
   refine hK.out _ _ t5 (fun lq=>?_);clear hK K;refine wpAnyH_done (by kernel_rfl) ?_ _
  focus
   have hb4:=(Br_ w1.heap.size w1).alloc di (c_ #[.slice ap np cp,s_ W0.heap.size 2 2] 189)
   have FD:Hid (Fd W0.heap.size w1.heap.size ps Oc (.slice ap np cp) (s_ W0.heap.size 2 2) ts0 (w1.alloc (c_ #[.slice ap np cp,s_ W0.heap.size 2 2] 189))):=
    ⟨hn_ _ _,BA.o.size,(Nv (HP.o.below BA.o)).below hb4,bU O1.o hb4 di,rfl,Oh _,TV⟩
   have BE:=bK (iT BA.o hb4);clear dF fV lh lq t2 t3 t4 t5 hb4
  rotate_left
  focus
   have FD:Hid (Fd W0.heap.size W0.heap.size ps Oc (.slice ap np cp) (s_ W1.heap.size 2 2) ts0 ((w2.setCell (a_ W0.heap.size 0) (.slice ap np cp)).setCell (a_ W0.heap.size 1) (s_ W1.heap.size 2 2))):=
    ⟨cO (cO FB2.o 0 _) 1 _,di,(Nv (HP.o.below B2.o)).grown FB2.o (by decide) (by decide) g5,dA O2.o FB2.o (by decide) g5,rfl,Oh _,TV⟩
   have BE:Hid (B_ W0 ((w2.setCell (a_ W0.heap.size 0) (.slice ap np cp)).setCell (a_ W0.heap.size 1) (s_ W1.heap.size 2 2))):=B2.o.grown g5 B2.o.size (fun k e=>by cases e;exact di);clear dF fV lh lq t2 t3 t4 t5 g5 k0 k1 kf0 kf1
  all_goals
   go_wp2_with fail
   go_meet
   case rel=>exact⟨_,_,_,rfl,BE.o,FD.o⟩
 case rest=>
  obtain⟨g,vs,ts,rfl,hbc,Xb⟩:=hcut;have WL:w.heap.size<=W0.heap.size:=by rw [hgT];have:=bO TB.o;omega
  have TBc:=bK (bN TB.o hbc (bO TB.o));have HLc:=bK (HL.o.below hbc);have BC:Hid (B_ w wc):=by have:=B0.o;rw [<-hgT] at this;exact this.trans (hbc.mono WL)
  have F0:=bK Xb;have szc:=hbc.size;clear Xb hbc HL HP TB B0;have c1:=bP 1 TBc.o rfl
  go_wp2_with fail
  refine (Ur B ps.length _ ls mode wc HLc.o hll hl LO.o).mono ?_
  clear c1;rintro e w1 ⟨r1,rfl,hb1,ho1⟩;have F1:=bK (F0.o.below hb1);have S1:Hid (Sk W0.heap.size wc w1):=.below szc hb1;have N1:Hid (ed w1 r1 (jG ls mode)):=dH ho1 (zl_ _);have BI:=bK (xG (n:=ps.length) mode LO.o);have OK0:Hid (Ch ps.length Oc):=by intro x hx;simp [Oc] at hx;subst hx;exact .nil _
  clear hb1 ho1 F0 HLc TBc
  go_wp2_with fail
  refine (Io W0.heap.size g ps Oc _ vs ts r1 1 (jG ls mode) w1 F1.o (by decide) hl (by decide) N1.o BI.o OK0.o).mono ?_
  rintro e w2 ⟨rfl,hs2,hf2⟩
  have I0:Hid (∃(k:Nat) (ss:List aN),43=45-k/\2<=k/\k<=43/\I_ 2=I_ k/\pI ps (45-k) k ss=pJ ls ps mode/\Sk W0.heap.size wc w2/\Ch ps.length ss/\ss.length<=298/\∃vp vs ts,Fd W0.heap.size g ps ss vp vs ts w2):=
   ⟨2,_,rfl,by omega,by omega,rfl,rfl,S1.o.trans hs2,Ew OK0.o BI.o 256,by have:=(AO ps (jG ls mode) 1 Oc 256).2;have e0:Oc.length=2:=rfl;omega,hf2⟩
  clear hs2 hf2 F1 S1 N1 BI OK0
  go_wp2_with fail
  go_loopg [7,8] 43 (fun gk _ kv wx=>∃(k:Nat) (ss:List aN),gk=45-k/\2<=k/\k<=43/\kv=I_ k/\pI ps (45-k) k ss=pJ ls ps mode/\Sk W0.heap.size wc wx/\Ch ps.length ss/\ss.length<=298/\∃vp vs ts,Fd W0.heap.size g ps ss vp vs ts wx)
  case atStart=>exact I0.o
  case round=>
   clear I0;obtain⟨k,ss,rfl,k2,k43,rfl,hfg,hsk,hok,sl,OG,vs1,ts1,Xb⟩:=hrel;have HG:=bK hfg;have SK:=bK hsk;have OKS:=bK hok;have FD:=bK Xb;have tl:=Xb.len;obtain⟨as1,cs1,rfl,_,_⟩:=dS Xb.own;have c1:=bP 1 Xb.aQ rfl;rw [tl] at c1;have FW:=bK (Sm W0.heap.size g ps ss _ _ _ wr Xb);have GE:Hid (pI ps (45-k) k ss=if k<ss.length/\ss.length<=42 then pI ps (45-(k+1)) (k+1) (mD ps (ji ps (qK ss k)) k ss 256) else ss):=by show _=_;rw [show 45-k=(45-(k+1))+1 by omega];rfl
   have BLr:W0.heap.size<=wr.heap.size:=lt_ szc SK.o.lo.size;clear hfg hsk hok Xb;by_cases hlt:k<ss.length
   .have d1:=nV k ss.length
    go_wp2_with fail
    refine FW.o.mono ?_
    clear FW;rintro e w3 ⟨rfl,rfl⟩;by_cases Ej:ss.length<=42
    .rw [dt_ Ej];have NXT:Hid (pI ps (45-(k+1)) (k+1) (mD ps (ji ps (qK ss k)) k ss 256)=pJ ls ps mode):=by have:=GE.o;rw [if_pos ⟨hlt,Ej⟩] at this;show _=_;rw [<-this];exact HG.o
     obtain⟨x,hx⟩:=qG ss k hlt;have epl:qK ss k=x.places:=by unfold qK;rw [hx]
     rw [epl] at NXT;obtain⟨gs,cap,ax,nx,cx,ev,_,hrg,hn,_⟩:=FD.o.get hx;rw [<-tl] at ev;cases ev;have cell0:=hrg 0 (.slice ax nx cx) rfl;rw [Nat.add_zero] at cell0;have XN:=bK hn;have XI:=bK (OKS.o x (mg_ hx));have Mr:=jg k;have Ij:(k:Int)<ss.length:=by omega
     have wi:=kg k;clear hrg hn hx epl GE HG
     go_wp2_with fail
     refine (Pb W0.heap.size g ps ss _ _ ts1 _ x.places w3 FD.o OK.o hl XN.o XI.o).mono ?_
     rintro e w4 ⟨r4,rfl,hb4,ho4⟩;have F4:=bK (FD.o.below hb4);have S4:=bK (SK.o.trans (.below BLr hb4));have N4:Hid (ed w4 r4 (ji ps x.places)):=dH ho4 (zl_ _);have BI:=bK (uN OK.o x.places);clear hb4 ho4 FD SK c1 cell0 XN
     go_wp2_with fail
     refine (Io W0.heap.size g ps ss _ _ ts1 r4 k (ji ps x.places) w4 F4.o (by omega) hl hlt N4.o BI.o OKS.o).mono ?_
     rintro e w5 ⟨rfl,hs5,hf5⟩;have S5:=bK (S4.o.trans hs5);have F5:=bK hf5;have O5:=bK (Ew (fr:=k) (ps:=ps) OKS.o BI.o 256);have L5:Hid ((mD ps (ji ps x.places) k ss 256).length<=298):=by show _<=_;have:=(AO ps (ji ps x.places) k ss 256).2;omega
     clear hs5 hf5 F4 S4 N4 BI OKS;go_wp2;go_roundg (45-(k+1))
     case measure=>omega
     case rel=>exact⟨k+1,_,rfl,by omega,by omega,by go_num,NXT.o,S5.o,O5.o,L5.o,F5.o⟩
    .rw [dn_ Ej];have RES:Hid (pJ ls ps mode=ss):=by have:=GE.o;rw [if_neg (fun h=>Ej h.2)] at this;show _=_;rw [<-this];exact HG.o.symm
     have FW:=bK (Sm W0.heap.size g ps ss _ _ _ w3 FD.o);clear GE HG
     go_wp2_with fail
     refine FW.o.mono ?_
     clear FW;rintro e w4 ⟨rfl,rfl⟩;rw [dn_ Ej];go_wp2
     go_ret2
     exact⟨BC.o.trans (SK.o.lo.mono WL),by rw [RES.o];exact .inr ⟨by omega,rfl⟩⟩
   .have d1:=mM k ss.length;have RES:Hid (pJ ls ps mode=ss):=by have:=GE.o;rw [if_neg (fun h=>hlt h.1)] at this;show _=_;rw [<-this];exact HG.o.symm
    clear GE HG
    go_wp2_with fail
    refine FW.o.mono ?_
    clear FW;rintro e w4 ⟨rfl,rfl⟩;by_cases Ej:ss.length<=42
    .rw [dt_ Ej];go_wp2
     go_ret2
     refine⟨BC.o.trans (SK.o.lo.mono WL),?_⟩;rw [RES.o];refine .inl ⟨Ej,_,rfl,?_⟩;have:=FD.o.Wj;rw [tl] at this;obtain⟨ts',h1,h2⟩:=this;exact⟨ts',dH h1 WL,h2⟩
    .rw [dn_ Ej];go_wp2
     go_ret2
     exact⟨BC.o.trans (SK.o.lo.mono WL),by rw [RES.o];exact .inr ⟨by omega,rfl⟩⟩
structure Kt (t0:Nat) (w w':W_):Prop where
 jy:∀(k:Nat) (cs:Array V_) (t:TypeId) (fr:Nat × Nat),w.heap[k]?=some (c_ cs t fr)->t≠t0->w'.heap[k]?=some (c_ cs t fr)
section
variable {t0:Nat} {w w' w'':W_}
theorem Kt.row (ho:w.ownsRow B t0 size v n xs) (h:w.grownBy w' v.ownBlock):Kt t0 w w':=⟨fun k cs t fr hk h1=>by
 have hl:=(Array.getElem?_eq_some_iff.1 hk).1
 rw [h.block k hl (fun e=>by
  rcases ho.2 with ⟨rfl,_⟩ | ⟨g,cap,cur,rfl,_,h4,_⟩
  .cases e
  .cases e
   rw [h4] at hk;cases hk
   exact h1 rfl)]
 exact hk⟩
theorem Kt.fA (hb:dh w g t0 xs) (h:w.grownBy w' (some g)):Kt t0 w w':=⟨fun k cs t fr hk h1=>by
 have hl:=(Array.getElem?_eq_some_iff.1 hk).1
 rw [h.block k hl (fun e=>by
  cases e
  unfold dh at hb;rw [hb] at hk;cases hk
  exact h1 rfl)]
 exact hk⟩
theorem Kt.block {t:Nat} (h:Kt t0 w w') (hb:dh w g t xs) (h1:t≠t0):dh w' g t xs:=h.jy g _ t _ hb h1
theorem Kt.rows {t:Nat} (h:Kt t0 w w') (hn:w.ownsRow B' t size v n xs) (h1:t≠t0):w'.ownsRow B' t size v n xs:=by
 refine⟨hn.1,?_⟩;rcases hn.2 with h0 | ⟨g,cap,cur,h3,h4,h5,h6⟩
 .exact .inl h0
 .exact .inr ⟨g,cap,cur,h3,h4,h.jy g _ _ _ h5 h1,h6⟩
theorem Kt.jF {l:List Nat} (h:Kt t0 w w') (hn:ed w v l) (h1:3≠t0):ed w' v l:=h.rows hn h1
theorem Kt.plm (h:Kt t0 w w') (hn:Dm B' w v ps) (h1:3≠t0) (h2:235≠t0):Dm B' w' v ps:=by obtain⟨qs,k1,k2,k3⟩:=hn;exact⟨qs,h.rows k1 h2,k2,fun q hq=>h.jF (k3 q hq) h1⟩
theorem Kt.lm {ls:List aD} (h:Kt t0 w w') (hn:Lm B' w v ls) (h1:3≠t0) (h2:85≠t0):Lm B' w' v ls:=by obtain⟨qs,k1,k2,k3⟩:=hn;exact⟨qs,h.rows k1 h2,k2,fun q hq=>⟨(k3 q hq).1,(k3 q hq).2.1,h.jF (k3 q hq).2.2.1 h1,h.jF (k3 q hq).2.2.2 h1⟩⟩
theorem Kt.Wj (h:Kt t0 w w') (hn:qB B' w v ss) (h1:3≠t0) (h2:142≠t0):qB B' w' v ss:=by obtain⟨ts,k1,k2,k3,k4⟩:=hn;exact⟨ts,h.rows k1 h2,k2,fun t ht=>h.jF (k3 t ht) h1,k4⟩
end
namespace Pu
def aV (all:List aC):Nat:=(lD (cB all).1).toNat
def fZ (all:List aC) (m:Nat):List aN:=pJ (cB all).1 (cB all).2 (m:Int)
def kW (all:List aC) (m:Nat):List (List aN):=(List.range m).map (fZ all)
def Ak (s:Y_) (en no:Int):Prop:=
 (300<s.size/\en=9/\no=0)\/(s.size<=300/\∃k:Nat,vZ s 0 0 k/\en=10/\no=k)\/
 (s.size<=300/\∃all,sM s 0 [] all/\
  ((∃i:Nat,mU Gx all i/\en=11/\no=i)\/(Aj Gx all/\∃i:Nat,mU Oz all i/\en=12/\no=i)\/
   (Aj Gx all/\Aj Oz all/\((∃m:Nat,m<aV all/\42<(fZ all m).length/\(∀j,j<m->(fZ all j).length<=42)/\en=13/\no=m)\/((∀j,j<aV all->(fZ all j).length<=42)/\en=0/\no=0)))))
theorem aes {ls:List aD} (hm:∀x∈ls,0<=x.mode/\x.mode<=3/\0<=x.md/\x.md<=3):∀h:Int,0<=h->h<=3->0<=ls.foldl xL h/\ls.foldl xL h<=3:=by
 induction ls with
 | nil=>intro h h0 h1;exact⟨h0,h1⟩
 | cons x ls ih=>
  intro h h0 h1;have hx:=hm x (ms_ ..);refine ih (fun y hy=>hm y (mc_ _ hy)) _ ?_ ?_
  .unfold xL;split <;> (try split) <;> omega
  .unfold xL;split <;> (try split) <;> omega
theorem EI {all:List aC} (h:∀x∈all,KE x):lD (cB all).1=(aV all:Int)/\1<=aV all/\aV all<=4:=by
 have:=aes (ls:=(cB all).1) (by
  intro y hy;obtain⟨k,hk⟩:=gf_ hy;have kl:k<all.length:=by rw [<-(iV all).n];exact (ge_.1 hk).1
  have hx:=gg_ kl;obtain⟨pt,h1,_⟩:=qh all hx;rw [hk] at h1;cases h1;have:=h _ (List.getElem_mem kl);unfold KE at this;simp only [aC.lp]
  omega) 0 (by omega) (by omega)
 unfold aV lD;omega
end Pu
def WK (B:Nat) (W:W_) (v:V_) (sss:List (List aN)):Prop:=∃vs:List V_,W.ownsRow B 87 1 v vs.length vs/\vs.length=sss.length/\∀(j:Nat) (u:V_) (ss:List aN),vs[j]?=some u->sss[j]?=some ss->qB B W u ss/\∃a n c,u=.slice a n c
theorem WK.below {B:Nat} {W W':W_} {v:V_} {sss:List (List aN)} (h:WK B W v sss) (hb:B_ W W'):WK B W' v sss:=by obtain⟨vs,h1,h2,h3⟩:=h;exact⟨vs,bU h1 hb di,h2,fun j u ss a b=>⟨(h3 j u ss a b).1.below hb,(h3 j u ss a b).2⟩⟩
theorem qB.form (h:qB B W v ss):∃a c,v=.slice a ss.length c:=by obtain⟨ts,h1,h2,_⟩:=h;obtain⟨a,c,e,_⟩:=dS h1;exact⟨a,c,by rw [e,<-h2,lm_]⟩
theorem qB.mono (h:qB B W v ss) (hb:B'<=B):qB B' W v ss:=by obtain⟨ts,h1,h2⟩:=h;exact⟨ts,dH h1 hb,h2⟩
theorem acM:(Tryz.prog.info? 87).map (fun i=>(i.zero,i.size,i.bytes))=some (some n_,1,24):=by kernel_rfl
theorem Bp {w:W_} {ops:Array Oper} {rest:List Oper} {o:Oper} {a:Act} {Q:Exit->Act->W_->Prop} (hgd:o.guard=none) (s x:Operand)
  (ho:o.op=.call { callee:=.builtin .append,args:=#[s,x],argTypes:=#[79,79] }) (base:Nat) (v:V_) (vs:List V_) (hs:a.eval s=v) (fH:w.ownsRow base 87 1 v vs.length vs)
  (gx:Nat) (q:V_) (hx:a.eval x=s_ gx 1 1) (hb:dh w gx 87 [q]) (hq:q.oneCell'=true) (kU:vs.length<=1000) (nX:base<=w.heap.size)
  (h:∀v' w',w'.ownsRow base 87 1 v' (vs++[q]).length (vs++[q])->w.grownBy w' v.ownBlock->wpList Tryz.prog ops Q rest (a.put o.dst v') w'):wpList Tryz.prog ops Q (o::rest) a w:=by
 obtain⟨il,hil,hl0,hl1,hl2⟩:=ip_ acM;refine wo_ _ hgd s x 79 ho base 87 il _ 1 24 Tryz.underlying79 hil hl0 hl1 hl2 rfl (by decide) v vs.length vs hs fH (a_ gx 0) 1 1 [q] hx rfl ?_ (fun u hu=>by simp at hu;rw [hu];exact hq) (by unfold maxLen;omega) (by omega) nX ?_
 .intro j y hy;have:=bM hb hy;simpa [add_eq] using this
 .intro v' w' h1 h2 _;refine h v' w' ?_ h2;rw [la_];exact h1
def agb (s:Y_) (w:W_) (e:Ending) (w':W_):Prop:=∃a b c fv en no,e=.returned (.tuple #[.agg #[a,b,c],fv,I_ en,I_ no])/\B_ w w'/\Ak s en no/\(en≠0->Value.agg #[a,b,c]=yu/\fv=n_)/\
 (en=0->∃all al nl cl ap np cp,sM s 0 [] all/\Aj Gx all/\Aj Oz all/\(∀j,j<Pu.aV all->(fZ all j).length<=42)/\a=I_ (Pu.aV all:Nat)/\b=.slice al nl cl/\c=.slice ap np cp/\Lm w.heap.size w' b (cB all).1/\Dm w.heap.size w' c (cB all).2/\WK w.heap.size w' fv (kW all (Pu.aV all)))
structure RI (w:W_) (gR gB:Nat) (all:List aC) (al:Option Addr) (nl cl:Nat) (ap:Option Addr) (np cp:Nat) (m:Nat) (fv:V_) (W:W_):Prop where
 be:B_ w W
 r:dh W gR 78 [I_ 0,n_,n_]
 b:dh W gB 78 [I_ (Pu.aV all:Nat),.slice al nl cl,.slice ap np cp]
 lm:Lm w.heap.size W (.slice al nl cl) (cB all).1
 pl:Dm w.heap.size W (.slice ap np cp) (cB all).2
 fd:WK w.heap.size W fv (kW all m)
 ok:∀j,j<m->(fZ all j).length<=42
 ap:w.heap.size<=gR
theorem RI.below {w:W_} {gR gB:Nat} {all:List aC} {al:Option Addr} {nl cl:Nat} {ap:Option Addr} {np cp m:Nat} {fv:V_} {W W':W_} (h:RI w gR gB all al nl cl ap np cp m fv W) (hb:B_ W W'):RI w gR gB all al nl cl ap np cp m fv W':=
 ⟨iT h.be hb,bN h.r hb (bO h.r),bN h.b hb (bO h.b),h.lm.below hb,h.pl.below hb,h.fd.below hb,h.ok,h.ap⟩
end Go.Proofs.YtmccnmgaoppogaaGreat
