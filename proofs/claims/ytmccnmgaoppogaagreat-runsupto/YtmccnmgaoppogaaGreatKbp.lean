import Derived.Test.YtmccnmgaoppogaaGreatKbo
namespace Go.Proofs.YtmccnmgaoppogaaGreat
open Pu
set_option linter.all false
set_option maxRecDepth 100000
set_option maxHeartbeats 8000000
open Go.RowKit
theorem Vt (N gw gd:Nat) (iG:List Al) (zs:List Gz) (ts:List Tl) (n:Int) (mG mR jh jb:V_) (w:W_) (h:WI N gw gd iG zs ts n mG mR jh jb w) (hc:∀x∈ts,x.cap<=9223372036854775807) (hts:ts.length<=1099511627776) :
  C_ 10 #[p_ gd] w (Du (.bool true) w):=by
 obtain⟨at1,c1,rfl,t1,t2⟩:=T.oo h.tl;obtain⟨at2,c2,rfl,t3,t4⟩:=T.oo h.tn;have H:=bK h;have HC:=bK hc;have hgd:=bO h.d;clear h hc;go_enter Tryz.func10,Tryz.ntmps10
 go_wp2_with fail
 go_loopg [3] 0 (fun gk kv wr=>kv=I_ 0/\gk=0/\B_ w wr)
 case atStart=>exact⟨rfl,rfl,Br_ _ _⟩
 case round=>
  obtain⟨rfl,rfl,hb0⟩:=hrel;have B0:=bK hb0;have d1:=bP 1 (bN H.o.d hb0 hgd) rfl;clear hb0
  go_wp2_with fail
  clear d1
  go_loopg [9] ts.length (fun gk kv wx=>∃k:Nat,k<=ts.length/\kv=I_ k/\gk=ts.length-k/\B_ w wx)
  case atStart=>exact⟨0,zl_ _,rfl,rfl,B0.o⟩
  case round=>
   clear B0;obtain⟨k,hk,rfl,rfl,hb⟩:=hrel;have HB:=bK hb;have D1:=bK (bN H.o.d hb hgd);have d4:=bP 4 D1.o rfl;by_cases hlt:k<ts.length
   .have hki:(k:Int)<ts.length:=by omega
    obtain⟨gt,ct,hv,-,-⟩:=dJ H.o.tl (by omega);cases hv;obtain⟨gn,cn,hv,-,-⟩:=dJ H.o.tn (by omega);cases hv;obtain⟨x,hx⟩:=qG ts k hlt;have PX:=bK (H.o.q.parts x (mg_ hx)).1;have qt:=bT (j:=k) H.o.tl (u:=.slice x.ao x.cap x.cap) (by rw [gm_,hx];rfl);have qn:=bT (j:=k) H.o.tn (u:=I_ x.m) (by rw [bY,gm_,gm_,hx];rfl);have lt1:=(lI H.o.tl).2;have lt2:=(lI H.o.tn).2;have QT:=bK qt;have QN:=bK qn;have xc:=HC.o x (mg_ hx);clear hx qt qn hb;obtain⟨ao,cap,m⟩:=x;simp only at PX QT QN xc
    go_wp2_with fail
    clear d4
    go_loopg [10] cap (fun gk iv wy=>∃i:Nat,i<=cap/\iv=I_ i/\gk=cap-i/\B_ w wy)
    case atStart=>exact⟨0,zl_ _,rfl,rfl,HB.o⟩
    case round=>
     clear HB D1;obtain⟨i,hi,rfl,rfl,hb⟩:=hrel;have HB:=bK hb;have d4:=bP 4 (bN H.o.d hb hgd) rfl;have d8:=bP 8 (bN H.o.d hb hgd) rfl;have qt:=(hb.cell (p:=(a_ gt k)) lt1).trans QT.o;have qn:=(hb.cell (p:=(a_ gn k)) lt2).trans QN.o;have sz:=hb.size;by_cases hil:i<cap
     .have hii:(i:Int)<cap:=by omega
      obtain⟨g,old,rfl,hbk,hol⟩:∃g old,ao=some (a_ g 0)/\dh w g 74 (List.replicate (cap*5) (I_ m)++old)/\cap*5+old.length=cap*5:=by
       rcases PX.o with ⟨_,h2⟩ | h2
       .omega
       .exact h2
      have gl:=bO hbk
      have cl:∀j,j<5->wr.cell? (a_ g (i*5+j))=some (I_ m):=fun j hj=>
       (hb.cell (p:=(a_ g (i*5+j))) gl).trans (bM hbk (by rw [al_ (by simp;omega),List.getElem?_replicate_of_lt (by omega)]))
      have e0:=cl 0 (by omega);have e1:=cl 1 (by omega);have e2:=cl 2 (by omega);have e3:=cl 3 (by omega);have e4:=cl 4 (by omega);rw [Nat.add_zero] at e0;have ne1:gd≠wr.heap.size:=by omega
      have yZ:gt≠wr.heap.size:=by omega
      have ne3:gn≠wr.heap.size:=by omega
      have ne4:g≠wr.heap.size:=by omega
      have aco:wr.heap.size≠gd:=by omega
      have ZF:wr.heap.size≠gt:=by omega
      have ahl:wr.heap.size≠gn:=by omega
      have ahm:wr.heap.size≠g:=by omega
      clear cl hbk hol hb PX
      go_wp2_with fail
      have hbx:=HB.o.alloc sz (c_ #[I_ m,I_ m,I_ m,I_ m,I_ m] 74);have KX:dh (wr.alloc (c_ #[I_ m,I_ m,I_ m,I_ m,I_ m] 74)) wr.heap.size 74 [I_ m,I_ m,I_ m,I_ m,I_ m]:=hn_ _ _;have d8':=bP 8 (bN H.o.d hbx hgd) rfl;have qn':=(hbx.cell (p:=(a_ gn k)) lt2).trans QN.o;have x0:=bP 0 KX rfl;have x1:=bP 1 KX rfl;have x2:=bP 2 KX rfl;have x3:=bP 3 KX rfl;have x4:=bP 4 KX rfl;have HB1:=bK hbx;clear d4 d8 qt qn e0 e1 e2 e3 e4 hbx KX HB ne1 yZ ne3 ne4 aco ZF ahl ahm sz;generalize wr.alloc (c_ #[I_ m,I_ m,I_ m,I_ m,I_ m] 74)=W1 at *;generalize wr.heap.size=gx at *;go_quiet (fail);go_wp2;go_roundg (cap-(i+1))
      case measure=>omega
      case rel=>exact⟨i+1,by omega,by go_num,rfl,bd_ HB1.o _⟩
     .have hin:i=cap:=by omega
      subst hin;have dd:=mM i i;clear hb;go_wp2;go_roundg (ts.length-(k+1))
      case measure=>omega
      case rel=>exact⟨k+1,by omega,by go_num,rfl,HB.o⟩
   .have dd:=mM k ts.length;clear hb;go_wp2;go_ret;exact⟨rfl,HB.o⟩
def Ty (c n:Int):Int:=if c<0 then (-(c+1)) % n else c % n
theorem Qs (c:Int) {n:Nat} (h:0<n):0<=Ty c n/\Ty c n<n:=by
 unfold Ty;split
 all_goals
  exact⟨Int.emod_nonneg _ (by omega),Int.emod_lt_of_pos _ (by omega)⟩
theorem ZU (c n:Int) (w:W_) (hc:Gh c) (hn:0<n) (hn2:n<=1099511627776) :
  C_ 17 #[I_ c,I_ n] w (sN (I_ (Ty c n)) w):=by
 have hc0:=hc.1;have hc1:=hc.2;by_cases h:c<0
 focus
  have hp:Ty c n=-(c+1).tmod n:=by unfold Ty;rw [if_pos h,<-Int.neg_tmod,Int.tmod_eq_emod_of_nonneg (by omega)]
  rw [hp];have hd:decide (c<0)=true:=by simpa using h
 rotate_left
 focus
  have hp:Ty c n=c % n:=by unfold Ty;rw [if_neg h]
  rw [hp];have hd:decide (c<0)=false:=by simpa using h
 all_goals
  go_enter Tryz.func17,Tryz.ntmps17;go_wp2;go_ret;exact⟨rfl,rfl⟩
theorem VR (l:List Al) (x:Al):Be (l++[x])=Be l++[.string x.s,p_ x.g]:=by simp [Be]
section
variable {N gw gd:Nat} {iG:List Al} {zs:List Gz} {ts:List Tl} {n:Int} {mG mR jh jb:V_} {W W':W_}
theorem WI.image (h:WI N gw gd iG zs ts n mG mR jh jb W) {pc:Al} {v2:V_} (hp:KJ W pc) (hg:W.grownBy W' mG.ownBlock) (ho:W'.ownsRow gd 57 2 v2 (iG.length+1) (Be iG++[.string pc.s,p_ pc.g])) :
  WI N gw gd (iG++[pc]) zs ts n v2 mR jh jb (W'.setCell (a_ gw 0) v2):=by
 have w1:=fK h.q.im h.q.w (by decide) hg;have hs:=gs_ W' gw 0 v2
 have kp:∀(y:Gz),GOK N W y->GOK N (W'.setCell (a_ gw 0) v2) y:=by
  intro y k;obtain⟨xs,b1⟩:=k.c.fA;obtain⟨ys,b2⟩:=k.d.fA
  have sf:∀(L g:Nat) (t:TypeId) (us:List V_),dh W g t us->t≠57->Safe W L g mG.ownBlock:=by
   intro L g t us hb ht;refine⟨fun e=>?_,fun b e cs t' fr hc=>?_⟩
   .rcases h.q.im.2 with ⟨e1,_⟩ | ⟨g',cap,cur,e1,_,h4,_⟩
    .rw [e1] at e;cases e
    .rw [e1] at e;cases e
     unfold dh at hb;rw [hb] at h4;cases h4;exact ht rfl
   .rcases h.q.im.2 with ⟨e1,_⟩ | ⟨g',cap,cur,e1,_,h4,_⟩
    .rw [e1] at e;cases e
    .rw [e1] at e;cases e
     rw [h4] at hc;cases hc;exact⟨by decide,by decide,by decide,fun e=>absurd e (by decide)⟩
  have sf2:∀(L g:Nat) (t:TypeId) (us:List V_),dh W' g t us->t≠37->Safe W' L g (some gw):=by intro L g t us hb ht;refine⟨fun e=>T.iB hb w1 ht (oi_ e),fun b e cs t' fr hc=>?_⟩;cases e;unfold dh at w1;rw [w1] at hc;cases hc;exact⟨by decide,by decide,by decide,fun e=>absurd e (by decide)⟩
  have c1:=k.c.jy (sf _ _ _ _ b1 (by decide)) hg;have d1:=k.d.jy (sf _ _ _ _ b2 (by decide)) hg;obtain⟨xs',b1'⟩:=c1.fA;obtain⟨ys',b2'⟩:=d1.fA;exact⟨c1.jy (sf2 _ _ _ _ b1' (by decide)) hs,d1.jy (sf2 _ _ _ _ b2' (by decide)) hs,k.same,k.n1,k.n2⟩
 have d1:=fK h.q.im h.d (by decide) hg;have sz:(W'.setCell (a_ gw 0) v2).heap.size=W'.heap.size:=by simp [World.setCell]
 refine⟨⟨cO w1 0 v2,?_,dM (fC h.q.sc h.q.im (by decide) hg) w1 (by decide) hs,fun z hz=>⟨?_,fun g e=>?_⟩,fun z hz=>kp z (h.q.gz z hz),di,fun z hz=>?_⟩,dB d1 (T.iB d1 w1 (by decide)) _ _,dM (fC h.tl h.q.im (by decide) hg) w1 (by decide) hs,dM (fC h.tn h.q.im (by decide) hg) w1 (by decide) hs,h.yV,h.ap,h.up⟩
 .rw [VR,la_,List.length_singleton];exact dM ho w1 (by decide) hs
 .refine (h.q.parts z hz).1.jy (fun g xs _ hb=>?_);have b1:=fK h.q.im hb (by decide) hg;exact dB b1 (T.iB b1 w1 (by decide)) _ _
 .have:=(h.q.parts z hz).2 g e;have:=hg.size;rw [sz];omega
 .have k:KJ W z:=by
   rcases ma_.1 hz with hz | hz
   .exact h.q.pic z hz
   .rw [List.mem_singleton.1 hz];exact hp
  exact⟨k.s,(k.r.row h.q.im (by decide) (by decide) (by decide) hg).on w1 (by decide) (by decide) (by decide) hs,k.m⟩
end
theorem Dl.line {w W:W_} {s:Y_} {all:List aC} {g:Nat} {vn:V_} {al:Option Addr} {cl:Nat} (h:Dl w s all g vn al cl W) (hb:∀x∈all,KE x) {k:Nat} {x:aC} (hk:all[k]?=some x) :
  ∃gv,al=some (a_ gv 0)/\W.cell? (a_ gv (k*5+1))=some (I_ x.emit)/\W.cell? (a_ gv (k*5+2))=some (I_ x.act)/\W.cell? (a_ gv (k*5+3))=some (I_ x.md):=by
 have ad:=zi all hb;have hd:=ad.get k x hk;have hl:=(ge_.1 hd).1;obtain⟨gv,cap,e,_,_⟩:=dJ h.ln (by omega);cases e
 exact⟨gv,rfl,bT h.ln (pG hd (j:=1) (by omega)),bT h.ln (pG hd (j:=2) (by omega)),bT h.ln (pG hd (j:=3) (by omega))⟩
structure Mm (w0 w:W_) (s:Y_) (all:List aC) (g gp:Nat) (vn:V_) (al:Option Addr) (cl:Nat) (ve vr vc:V_) (W:W_):Prop where
 be:B_ w W
 dl:Dl w0 s all g vn al cl W
 b:dh W gp 43 [ve,vr,vc]
 r:W.ownsRow w.heap.size 59 3 vr all.length (eG (jD (cB all).1))
theorem Mm.below {w0 w:W_} {s:Y_} {all:List aC} {g gp:Nat} {vn:V_} {al:Option Addr} {cl:Nat} {ve vr vc:V_} {W W':W_} (h:Mm w0 w s all g gp vn al cl ve vr vc W) (hb:B_ W W'):Mm w0 w s all g gp vn al cl ve vr vc W':=
 ⟨iT h.be hb,h.dl.below hb,bN h.b hb (bO h.b),bU h.r hb di⟩
theorem V9 (all:List aC) {k:Nat} {x:aC} (hk:all[k]?=some x):(jD (cB all).1).getD k Pu.aY=⟨x.emit,x.act,x.md⟩:=by obtain⟨pt,h1,_⟩:=qh all hk;unfold jD;rw [gd_,gm_,h1];rfl
theorem Zu (s str:Y_) (all:List aC) (g:Nat) (vn:V_) (al:Option Addr) (cl:Nat) (w0 w:W_) (hD:Dl w0 s all g vn al cl w) (hL:sM s 0 [] all) (wT:∀j,j<Pu.aV all->(fZ all j).length<=42) (hs:str=strOfNums (vN (lS all))) :
  C_ 14 #[.string str,p_ g] w (mW (.bool true) w):=by
 have rp:=uS hL wT;have fm:=En rp;rw [<-hs] at fm;have zl:=hL.zl;have nm:=EI zl.1;have ad:=zi all zl.1;have EL:(lS all).ents.length=Pu.aV all:=by have:=(xH wT).ents;rw [xO] at this;exact this
 have RLn:(lS all).rules.length=all.length:=(Fp hL).2
 have MD:(fG all).modes=((Pu.aV all:Nat):Int):=by
  rcases ad.modes with ⟨e,_⟩ | e
  .rw [e] at zl;have:=zl.2.1;simp at this
  .rw [e];exact nm.1
 have LD:(fG all).ls.length=all.length:=ad.n
 have ssz:str.size<=9223372036854775807:=by
  rw [hs];have h1:=Jq (lS all);have h2:(strOfNums (vN (lS all))).size=(vN (lS all)).length:=by simp [strOfNums,ByteArray.size]
  have h3:=rp.2.2.1.1.2;have h4:=rp.1.1.2;have h5:=rp.2.1.1.2;omega
 have fw:=bK (yn str w ssz);have FM:=bK fm;have RP:=bK rp;have HD:=bK hD;have HL:=bK zl.1;have ajC:all.length<=16:=zl.2.2;clear hs fm rp hD hL wT zl nm ad ssz;go_enter Tryz.func14,Tryz.ntmps14
 go_wp2_with fail
 refine fw.o.mono ?_
 clear fw;rintro e w2 h2;rcases h2 with ⟨hF,hR,ve,vr,vc,rfl,hb2,o1,o2,o3⟩ | ⟨hN,rfl,hb2⟩
 .rw [FM.o.2] at o1 o2 o3;have n1:nE str=Pu.aV all:=by have h1:(eX str).ents.length=nE str:=uT _ _ _;rw [FM.o.2,EL] at h1;exact h1.symm
  have n2:nR str=all.length:=by have h1:(eX str).rules.length=nR str:=nk _ _ _;rw [FM.o.2,RLn] at h1;exact h1.symm
  rw [n1] at o1;rw [n2] at o2;obtain⟨ae,ce,rfl,_,_⟩:=dS o1;obtain⟨ar,cr,rfl,_,_⟩:=dS o2;obtain⟨ac,cc,rfl,_,_⟩:=dS o3;generalize nC str=nc at *;have hb3:B_ w2 (w2.alloc (c_ #[.slice ae (Pu.aV all) ce,.slice ar all.length cr,.slice ac nc cc] 43)):=mi _;have M0:Hid (Mm w0 w s all g w2.heap.size vn al cl (.slice ae (Pu.aV all) ce) (.slice ar all.length cr) (.slice ac nc cc) (w2.alloc (c_ #[.slice ae (Pu.aV all) ce,.slice ar all.length cr,.slice ac nc cc] 43))):=⟨iT hb2 hb3,(HD.o.below hb2).below hb3,hn_ _ _,bU o2 hb3 di⟩;clear hb2 hb3 o1 o2 o3 n1 n2 hF hR FM RP HD EL RLn;go_upto_region 2 with (fail);generalize w2.alloc (c_ #[.slice ae (Pu.aV all) ce,.slice ar all.length cr,.slice ac nc cc] 43)=W3 at *;generalize w2.heap.size=gp at *;have p0:=bP 0 M0.o.b rfl;have p1:=bP 1 M0.o.b rfl;have d0:W3.cell? (a_ g 0)=some (I_ ((Pu.aV all:Nat):Int)):=by rw [<-MD];exact bM (j:=0) M0.o.dl.dr.rb rfl
  have d2:W3.cell? (a_ g 2)=some (.slice al all.length cl):=by rw [<-LD];exact bM (j:=2) M0.o.dl.dr.rb rfl
  have e1:(((Pu.aV all:Nat):Int) != ((Pu.aV all:Nat):Int))=false:=by simp
  have e2:(((all.length:Nat):Int) != ((all.length:Nat):Int))=false:=by simp
  have HMD:=bK MD;have HLD:=bK LD;clear MD LD;go_quiet (fail);have M1:=bK (M0.o.below (bd_ (Br_ _ _) nq));clear M0 p0 p1 d0 d2 e1 e2;generalize W3.drewN nq=W4 at *
  go_wp2_with fail
  go_loopg [7,8] all.length (fun gk kv _ wx=>∃(k:Nat),k<=all.length/\gk=all.length-k/\kv=I_ k/\Mm w0 w s all g gp vn al cl (.slice ae (Pu.aV all) ce) (.slice ar all.length cr) (.slice ac nc cc) wx)
  case atStart=>exact⟨0,zl_ _,rfl,rfl,M1.o⟩
  case round=>
   clear M1;obtain⟨k,kl,rfl,rfl,hM⟩:=hrel;have p1:=bP 1 hM.b rfl;by_cases hk:k<all.length
   .have dk:=nV k all.length;have wi:=kg k;have Mr:=jg k;have Ij:(k:Int)<all.length:=by omega
    obtain⟨x,hx⟩:=qG all k hk;obtain⟨gv,rfl,q1,q2,q3⟩:=hM.dl.line HL.o hx;have q2':wr.cell? (a_ gv (k*5+1+1))=some (I_ x.act):=q2;have q3':wr.cell? (a_ gv (k*5+1+2))=some (I_ x.md):=q3;have d2:wr.cell? (a_ g 2)=some (s_ gv all.length cl):=by rw [<-HLD.o];exact bM (j:=2) hM.dl.dr.rb rfl
    obtain⟨gr,cr',er,_,_⟩:=dJ hM.r (by omega);cases er;have rg:=V9 all hx;have qm:B_ wr (wr.alloc (c_ #[I_ x.emit,I_ x.act,I_ x.md] 59)):=mi _;have MA:=bK (hM.below qm);have XB:Hid (dh (wr.alloc (c_ #[I_ x.emit,I_ x.act,I_ x.md] 59)) wr.heap.size 59 [I_ x.emit,I_ x.act,I_ x.md]):=hn_ _ _;have RG:=bK rg;clear hM qm rg hx;go_upto_region 8 with (fail);clear q1 q2 q3 q2' q3' d2 p1;generalize wr.alloc (c_ #[I_ x.emit,I_ x.act,I_ x.md] 59)=W5 at *;generalize wr.heap.size=gx at *;have x0:=bP 0 XB.o rfl;have x1:=bP 1 XB.o rfl;have x2:=bP 2 XB.o rfl;have p1:=bP 1 MA.o.b rfl;have aO:=tZ (jD (cB all).1) k (by unfold jD;rw [lm_,(iV all).n];exact hk);rw [RG.o] at aO;have aY:W5.cell? (a_ gr (k*3))=some (I_ x.emit):=by have:=bT MA.o.r aO.1;rwa [Nat.mul_comm] at this
    have r1:W5.cell? (a_ gr (k*3+1))=some (I_ x.act):=by have:=bT MA.o.r aO.2.1;rwa [Nat.mul_comm] at this
    have r2:W5.cell? (a_ gr (k*3+2))=some (I_ x.md):=by have:=bT MA.o.r aO.2.2;rwa [Nat.mul_comm] at this
    have e1:(x.emit != x.emit)=false:=by simp
    have e2:(x.act != x.act)=false:=by simp
    have e3:(x.md != x.md)=false:=by simp
    clear aO RG;go_quiet (fail);have M6:=bK (MA.o.below (bd_ (Br_ _ _) nq));clear MA XB x0 x1 x2 p1 aY r1 r2 e1 e2 e3;go_wp2;go_roundg (all.length-(k+1))
    case measure=>omega
    case rel=>exact⟨k+1,by omega,rfl,by go_num,M6.o⟩
   .have dk:=mM k all.length;have B9:=bK hM.be;clear hM;go_wp2;go_ret;exact⟨rfl,B9.o⟩
 .exact absurd ⟨FM.o.1,by rw [FM.o.2];exact RP.o⟩ hN
theorem VS:(Tryz.prog.info? 57).map (fun i=>(i.zero,i.size,i.bytes))=some (some (.agg #[.string ⟨#[]⟩,.pointer none]),2,24):=by kernel_rfl
def afX (gw gd:Nat) (iG:List Al) (mG:V_) (w:W_) (e:Ending) (w':W_):Prop:=
 e=.returned (.bool true)/\(B_ w w'\/∃pc a2 c2 wa wb,B_ w wa/\KJ wa pc/\wa.grownBy wb mG.ownBlock/\wb.ownsRow gd 57 2 (.slice a2 (iG.length+1) c2) (iG.length+1) (Be iG++[.string pc.s,p_ pc.g])/\w'=wb.setCell (a_ gw 0) (.slice a2 (iG.length+1) c2))
theorem yg (gw gd:Nat) (iG:List Al) (mG mR dv:V_) (s:Y_) (w:W_) (hw:dh w gw 37 [mG,mR,dv]) (hr:w.ownsRow gd 57 2 mG iG.length (Be iG)) (hd:gd<=w.heap.size) (hi:iG.length<=1099511627776) (vK:Bv s) :
  C_ 7 #[p_ gw,.string s] w (afX gw gd iG mG w):=by
 obtain⟨aS,hi0,hz0,hz1,hz2⟩:=ip_ VS;have HW:=bK hw;have HR:=bK hr;have HM:=bK vK;clear hw hr vK;go_enter Tryz.func7,Tryz.ntmps7
 go_wp2_with fail
 refine (Lu s w).mono ?_
 rintro e w2 ⟨en,str,rfl,hb2,⟨⟨no,hpc⟩,h1,h2⟩⟩;have fw:=bK (UA s en no hpc w2 HM.o);have B2:=bK hb2;have H1:=bK h1;have H2:=bK h2;have PC:=bK hpc;clear hb2 hpc HM h1 h2
 go_wp2_with fail
 refine fw.o.mono ?_
 clear fw;rintro e w3 ⟨p,rfl,hb3,hd⟩;have B3:=bK (iT B2.o hb3);have HD:=bK hd;clear hb3 hd B2;by_cases he:en=0
 .subst he;obtain⟨agp,g,vn,al,cl,hL,rfl,dl⟩:=HD.o rfl;obtain⟨all,hL',hD',hE',wT,hs⟩:=H2.o rfl;have ea:=hL.zq hL';subst ea
  have aek:s.size<=300:=by
   rcases PC.o with ⟨_,h,_⟩ | ⟨h,_⟩ | ⟨h,_⟩
   .cases h
   .exact h
   .exact h
  have MADE:=bK (fun W (hb:B_ w3 W)=>Zu s str all g vn al cl _ W (dl.below hb) hL wT hs);have PK:Hid (∀W,B_ w3 W->KJ W ⟨str,all,g⟩):=fun W hb=>⟨hs,⟨_,s,vn,al,cl,hL,aek,(dl.below hb).dr,(dl.below hb).ln⟩,wT⟩
  clear hL hL' hD' hE' wT hs dl H1 H2 HD PC
  go_wp2_with fail
  refine (Tt 0 w3).mono ?_
  rintro e w4 ⟨rfl,hb4⟩;have B4:=bK (iT B3.o hb4);have MD:=bK (MADE.o w4 hb4);have C4:=bK hb4;clear hb4 B3 MADE
  go_wp2_with fail
  refine MD.o.mono ?_
  clear MD;rintro e w5 ⟨rfl,hb5⟩;have qm:B_ w5 (w5.alloc (c_ #[.string str,p_ g] 57)):=mi _;have BA:=bK (iT (iT B4.o hb5) qm);have PA:=bK (PK.o _ (iT (iT C4.o hb5) qm));have WA:=bK (bN HW.o BA.o (bO HW.o));have RA:=bK (bU HR.o BA.o di);have H5:=bK (bN HW.o (iT B4.o hb5) (bO HW.o));have NB:Hid (dh (w5.alloc (c_ #[.string str,p_ g] 57)) w5.heap.size 57 [.string str,p_ g]):=hn_ _ _;have DL:gd<=(w5.alloc (c_ #[.string str,p_ g] 57)).heap.size:=lt_ hd BA.o.size;have i1:=bP 0 H5.o rfl;clear hb5 qm B4 C4 PK H5 HW HR
  go_wp2_with (at_builtin;go_must (refine wo_ _ rfl (.tmp 37) (.tmp 41) 34 rfl gd 57 aS (.agg #[.string ⟨#[]⟩,.pointer none]) 2 24 Tryz.underlying34 hi0 hz0 hz1 hz2 rfl (by decide) mG iG.length (Be iG) rfl RA.o (a_ w5.heap.size 0) 1 1 [.string str,p_ g] rfl rfl (fun j y hy=>by have:=bM NB.o hy;simpa [add_eq] using this) (by intro u hu;simp at hu;rcases hu with rfl | rfl <;> rfl) (by unfold maxLen;omega) (by omega) DL ?_);intro v8 w8 jd eO _;obtain⟨a8,c8,rfl,_,_⟩:=dS jd;have AR:=bK (fK RA.o WA.o (by decide) eO);have k8:=bM (j:=0) AR.o rfl;have f8:=bL AR.o 0;have O8:=bK jd;have G8:=bK eO;clear jd eO)
  go_ret;exact⟨rfl,.inr ⟨⟨str,all,g⟩,_,_,_,_,BA.o,PA.o,G8.o,O8.o,rfl⟩⟩
 .have es:=H1.o he;subst es;have e1:(en != 0)=true:=by simpa using he
  have e2:(en == 0)=false:=by simpa using he
  have e3:(en != en)=false:=by simp
  clear HD H1 H2 PC
  go_wp2_with fail
  refine (Tt en w3).mono ?_
  rintro e w4 ⟨rfl,hb4⟩;have B4:=bK (iT B3.o hb4);clear hb4 B3;go_wp2;go_ret;exact⟨rfl,.inl B4.o⟩
def afY (N gw gd:Nat) (iG:List Al) (zs:List Gz) (ts:List Tl) (n:Int) (mG mR jh jb:V_) (w:W_) (e:Ending) (w':W_):Prop:=
 e=.returned (.bool true)/\Kept gd w w'/\(WI N gw gd iG zs ts n mG mR jh jb w'\/∃pc v2,WI N gw gd (iG++[pc]) zs ts n v2 mR jh jb w')
theorem Gv (N gw gd:Nat) (iG:List Al) (zs:List Gz) (ts:List Tl) (n:Int) (mG mR jh jb:V_) (s:Y_) (w:W_) (h:WI N gw gd iG zs ts n mG mR jh jb w) (hi:iG.length<=1099511627776) (vK:Bv s) :
  C_ 7 #[p_ gw,.string s] w (afY N gw gd iG zs ts n mG mR jh jb w):=by
 have hd:=ll_ (bO h.d);refine (yg gw gd iG mG mR _ s w h.q.w h.q.im hd hi vK).mono ?_
 rintro e w' ⟨rfl,hb | ⟨pc,a2,c2,wa,wb,hb,pk,hg,ho,rfl⟩⟩
 .exact⟨rfl,.below hd hb,.inl (h.below hb)⟩
 .have ha:=h.below hb;exact⟨rfl,((Kept.below hd hb).trans (.row (ll_ (bO ha.d)) ha.q.im (by decide) hg)).trans (.cell ha.up.1 (fK ha.q.im ha.q.w (by decide) hg) (by decide) 0 _),.inr ⟨_,_,ha.image pk hg ho⟩⟩
end Go.Proofs.YtmccnmgaoppogaaGreat
