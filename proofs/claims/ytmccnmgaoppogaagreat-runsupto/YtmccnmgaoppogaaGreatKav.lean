import Derived.Test.YtmccnmgaoppogaaGreatHH
import Derived.Test.YtmccnmgaoppogaaGreatKat
namespace Go.Proofs.YtmccnmgaoppogaaGreat
open Pu
set_option linter.all false
set_option maxRecDepth 100000
set_option maxHeartbeats 8000000
open Go.RowKit
variable {ns:List aF} {c n:Nat}
namespace Pu
theorem NH (ns:List aF):∀c,∀d∈ni ns c,d<c:=by
 intro c
 induction c with
 | zero=>intro d hd;simp [ni] at hd
 | succ c ih=>
  intro d hd;unfold ni at hd;split at hd
  .have:=ih d hd;omega
  .rcases ma_.1 hd with k | k
   .have:=ih d k;omega
   .simp at k;omega
theorem IE (ns:List aF):∀c,(ni ns c).length<=c:=by
 intro c
 induction c with
 | zero=>simp [ni]
 | succ c ih=>
  rw [rZ];split
  .omega
  .simp;omega
theorem VK {R:List Nat} {k:Nat} (h:zK ns (R.take k) c=true):zK ns R c=true:=by unfold zK at *;rw [List.any_eq_true] at *;obtain⟨d,hd,e⟩:=h;exact⟨d,List.mem_of_mem_take hd,e⟩
theorem VJ {R:List Nat} {k d:Nat} (hk:R[k]?=some d) (h:zK ns (R.take k) c=false):zK ns (R.take (k+1)) c=qc ns c d:=by rw [List.take_add_one,hk];unfold zK at *;rw [List.any_append,h];simp
theorem QI {d:Nat} (h:qc (ns.take n) c d=false):qc ns c d=false:=by unfold qc at *;rw [List.all_eq_false] at *;obtain⟨x,hx,e⟩:=h;exact⟨x,List.mem_of_mem_take hx,e⟩
theorem QH {d:Nat} {x:aF} (hk:ns[n]?=some x) (h:qc (ns.take n) c d=true):qc (ns.take (n+1)) c d=(decide (x.kind≠1) || decide (x.inn c=x.inn d)):=by rw [List.take_add_one,hk];unfold qc at *;rw [List.all_append,h];simp
end Pu
theorem VN {w:W_} {base e size:Nat} {v:V_} {xs:List V_} (h:w.ownsRow base e size v n xs) (m:Nat):(w.drewN m).ownsRow base e size v n xs:=h
theorem Dr.cell {B g i:Nat} {s:Y_} {ns:List aF} {al:Option Addr} {m cap:Nat} {vl:V_} {modes down:Int} {W:W_} (h:Dr B g s i ns (.slice al m cap) vl modes down W) {p:Nat} {x:aF} (hp:ns[p]?=some x) :
  ∃gn,al=some (a_ gn 0)/\m=ns.length/\W.cell? (a_ gn (p*259))=some (I_ x.kind)/\∀c,c<256->W.cell? (a_ gn (p*259+3+c))=some (.bool (x.inn c)):=by
 obtain⟨gn,cap',e,hr⟩:=h.get hp;cases e
 have h0:W.cell? (a_ gn (p*259+0))=some (I_ x.kind):=hr 0 (I_ x.kind) (by show (_::_)[0]?=_;rw [List.getElem?_cons_zero]);rw [Nat.add_zero] at h0;refine⟨gn,rfl,rfl,h0,fun c hc=>?_⟩
 have:=hr (3+c) (.bool (x.inn c)) (by
  unfold dN;rw [show 3+c=c+1+1+1 by omega,cs_,cs_,cs_]
  exact gD _ hc)
 rwa [<-Nat.add_assoc] at this
theorem Ls (B g i:Nat) (s:Y_) (ns:List aF) (vn vl:V_) (modes down:Int) (_hn:ns.length<=100000) (w:W_) (hd:Dr B g s i ns vn vl modes down w) :
  C_ 98 #[p_ g] w (RO (ni ns 256) w):=by
 obtain⟨an,cn,rfl,_,_⟩:=dS hd.own;have HD:=bK hd;clear hd;go_enter Tryz.func98,Tryz.ntmps98
 go_wp2_with fail
 go_loopg [3,4,5,6,7,8] 256 (fun gk ov cv _ _ _ _ wx=>∃(c:Nat),c<=256/\gk=256-c/\cv=I_ c/\B_ w wx/\wx.ownsRow w.heap.size 3 1 ov (ni ns c).length (bV (ni ns c)))
 case atStart=>exact⟨0,zl_ _,rfl,rfl,Br_ _ _,fT _ _ _ _⟩
 case round=>
  obtain⟨c,cl,rfl,rfl,hb,ho⟩:=hrel;have HB:=bK hb;have HO:=bK ho;obtain⟨ar,cr,rfl,_,_⟩:=dS ho;have rl:=IE ns c;have RLT:=bK (NH ns c);clear hb ho;generalize hR:ni ns c=R at *;have HR:=bK hR;clear hR;by_cases hc:c<256
  .have d1:decide ((c:Int)<256)=true:=dt_ (by omega);have wc:=kg c;have ic0:=jg c;have ic1:(c:Int)<256:=by omega
   go_wp2_with fail
   go_loopg [5,6,7,8] R.length (fun gk oldv kv _ _ wx=>∃(k:Nat),k<=R.length/\gk=R.length-k/\kv=I_ k/\oldv=.bool (zK ns (R.take k) c)/\B_ w wx/\wx.ownsRow w.heap.size 3 1 (.slice ar R.length cr) R.length (bV R))
   case atStart=>exact⟨0,zl_ _,rfl,rfl,rfl,HB.o,HO.o⟩
   case round=>
    clear HB HO;obtain⟨k,kl,rfl,rfl,rfl,hb,ho⟩:=hrel;have HB2:=bK hb;have Cf:=bK ho;clear hb ho;by_cases hk:k<R.length
    .have d2:=nV k R.length;have wk:=kg k;have Mr:=jg k;have Ij:(k:Int)<R.length:=by omega
     cases ek:zK ns (R.take k) c with
     | true=>
      have eo:=VK ek;clear ek;have RN:Hid (ni ns (c+1)=R):=by show _=_;rw [rZ,HR.o,if_pos eo]
      clear eo HR;go_wp2;go_roundg (256-(c+1))
      case measure=>omega
      case rel=>exact⟨c+1,by omega,rfl,by go_num,HB2.o,by rw [RN.o];exact Cf.o⟩
     | false=>
      obtain⟨d,hd⟩:=qG R k hk;have hdl:d<256:=by have:=RLT.o d (mg_ hd);omega
      have id0:=jg d;have id1:(d:Int)<256:=by omega
      have NX:=bK (VJ hd ek);have ND:=bK hd;clear ek hd
      go_wp2_with fail
      go_loopg [7,8] ns.length (fun gk sv nv wx=>∃(n:Nat),n<=ns.length/\gk=ns.length-n/\nv=I_ n/\sv=.bool (qc (ns.take n) c d)/\B_ w wx/\wx.ownsRow w.heap.size 3 1 (.slice ar R.length cr) R.length (bV R))
      case atStart=>exact⟨0,zl_ _,rfl,rfl,rfl,HB2.o,Cf.o⟩
      case round=>
       clear HB2 Cf;obtain⟨n,nl,rfl,rfl,rfl,hb,ho⟩:=hrel;have HB2:=bK hb;have Cf:=bK ho;have D2:=HD.o.below hb;have c1:=bP 1 D2.rb rfl;by_cases hlt:n<ns.length
       .have d3:=nV n ns.length
        cases es:qc (ns.take n) c d with
        | false=>
         have RE:Hid (zK ns (R.take (k+1)) c=false):=NX.o.trans (QI es);clear es hb ho D2;go_wp2;go_roundg (R.length-(k+1))
         case measure=>omega
         case rel=>exact⟨k+1,by omega,rfl,by go_num,by rw [RE.o],HB2.o,Cf.o⟩
        | true=>
         obtain⟨x,hx⟩:=qG ns n hlt;have SN:=bK (QH hx es);obtain⟨gn,e1,_,y0,yc⟩:=D2.cell hx;subst e1;have y1:=yc c hc;have y2:=yc d hdl;obtain⟨gr,cr',er,_,_⟩:=dJ ho (by omega);cases er;have rk:=bT ho (iD ND.o);have in0:=jg n;have in1:(n:Int)<ns.length:=by omega
         have wn:=kg n;clear es hb ho D2 yc hx;have e2:decide ((x.kind:Int)=1)=decide (x.kind=1):=by rw [decide_eq_decide];omega
         by_cases ek:x.kind=1
         focus
          have ek':(x.kind:Int)=1:=by omega
          rw [ek'] at y0;have SN2:Hid (qc (ns.take (n+1)) c d=decide (x.inn c=x.inn d)):=SN.o.trans (by rw [dn_ (by simp [ek]),Bool.false_or]);clear SN ek ek' e2;generalize x.inn c=b1 at *;generalize x.inn d=b2 at *
         rotate_left
         focus
          have ek':decide ((x.kind:Int)=1)=false:=dn_ (by omega);have SN2:Hid (qc (ns.take (n+1)) c d=true):=SN.o.trans (by rw [dt_ (by simpa using ek),Bool.true_or]);have ek2:((x.kind:Int) == 1)=false:=by simp;omega
          have ek3:((x.kind:Int) != 1)=true:=by simp;omega
          have ek4:decide ((x.kind:Int)≠1)=true:=dt_ (by omega);clear SN ek e2;generalize (x.kind:Int)=kv at *
         rotate_left
         all_goals
          go_wp2_with fail
          go_quiet (fail);have dn:=bK (bd_ HB2.o nq);have on:=bK (VN Cf.o nq)
         .have EQ:Hid ((b1 == b2)=qc (ns.take (n+1)) c d):=by rw [SN2.o];cases b1 <;> cases b2 <;> rfl
          clear SN2;go_wp2;go_roundg (ns.length-(n+1))
          case measure=>omega
          case rel=>exact⟨n+1,by omega,rfl,by go_num,by rw [<-EQ.o],dn.o,on.o⟩
         .go_wp2;go_roundg (ns.length-(n+1))
          case measure=>omega
          case rel=>exact⟨n+1,by omega,rfl,by go_num,by rw [SN2.o],dn.o,on.o⟩
       .have d3:=mM n ns.length;have e:n=ns.length:=by omega
        subst e;have RE:Hid (zK ns (R.take (k+1)) c=qc (ns.take ns.length) c d):=by rw [List.take_length];exact NX.o
        clear hb ho D2;go_wp2;go_roundg (R.length-(k+1))
        case measure=>omega
        case rel=>exact⟨k+1,by omega,rfl,by go_num,by rw [RE.o],HB2.o,Cf.o⟩
    .have d2:=mM k R.length;have e:k=R.length:=by omega
     subst e;rw [List.take_length]
     cases eo:zK ns R c with
     | true=>
      skip
      have RN:Hid (ni ns (c+1)=R):=by show _=_;rw [rZ,HR.o,if_pos eo]
      clear eo HR;go_wp2;go_roundg (256-(c+1))
      case measure=>omega
      case rel=>exact⟨c+1,by omega,rfl,by go_num,HB2.o,by rw [RN.o];exact Cf.o⟩
     | false=>
      skip
      have RN:Hid (ni ns (c+1)=R++[c]):=by show _=_;rw [rZ,HR.o,if_neg (by rw [eo];simp)]
      clear eo HR;have sz:=HB2.o.size
      go_wp2_with (at_builtin;go_must (refine fP rfl (.tmp 73) (.tmp 75) rfl w.heap.size _ R [c] rfl (oa_ Cf.o _) (some (a_ wr.heap.size 0)) 1 1 rfl ⟨rfl,.inr ⟨_,rfl,fun j0 x0 h0=>jw (xs:=[I_ c]) rfl j0 _ (by cases j0 with | zero=>simp at h0;subst h0;rfl | succ j0=>simp at h0)⟩⟩ (by simp;omega) (by simp;omega) ?_);intro v2 w2 dw bS)
      have hb2:B_ w w2:=(HB2.o.alloc sz _).grown bS (by simp;omega) (fun k' h=>(ol_ Cf.o k' h).1);have O2:=bK dw;clear bS dw;go_roundg (256-(c+1))
      case measure=>omega
      case rel=>exact⟨c+1,by omega,rfl,by go_num,hb2,by rw [RN.o];exact O2.o⟩
  .have d1:decide ((c:Int)<256)=false:=dn_ (by omega);have e:c=256:=by omega
   subst e;go_wp2;go_ret;exact⟨_,rfl,HB.o,by rw [HR.o];exact HO.o⟩
theorem jV.Ap {e0:Bool} {f1 f2 Ee f2':Nat->Bool} {gg gr gf cap:Nat} {gs:List Nat} {fo Gm:Nat->Nat->Bool} {w w':W_} {e:Ending} (h:jV e0 f1 f2 gg gr gf cap n gs fo w e w') (c1:∀k,f1 k=Ee k) (c2:∀k,f2 k=f2' k) (c3:∀i k,fo i k=Gm i k):jV e0 Ee f2' gg gr gf cap n gs Gm w e w':=by rw [show Ee=f1 from funext (fun k=>(c1 k).symm),show f2'=f2 from funext (fun k=>(c2 k).symm),show Gm=fo from funext (fun i=>funext (fun k=>(c3 i k).symm))];exact h
theorem Qb (B g i:Nat) (s:Y_) (ns:List aF) (vn vl:V_) (modes down:Int) (hn:ns.length<=100000) (gg gf cap:Nat) (gs:List Nat) (re:aM):∀(m:Nat) (fo:Nat->Nat->Bool) (w:W_),Dr B g s i ns vn vl modes down w->Gf w gg g gf cap ns.length gs fo->Pu.ag ns re m->
  C_ 96 #[p_ gg,I_ ((m+re.size-1:Nat):Int)] w (jV re.iM (Pu.Gy re m) (Pu.Ko re m) gg g gf cap ns.length gs (fun a c=>fo a c || Pu.CU re m a c) w):=by
 induction re with
 | pl T=>intro m fo w hd hf hat;have hx:ns[m]?=some ⟨1,0,0,T⟩:=hat 0 _ rfl;rw [show m+(aM.pl T).size-1=m by simp only [aM.size];omega];refine (Vz B g i s ns vn vl modes down hn gg gf cap gs fo T m w hd hf hx).mono (fun e w' h=>?_);exact jV.Ap h (fun k=>rfl) (fun k=>rfl) (fun a c=>by simp [Pu.CU])
 | cat a b iha ihb=>intro m fo w hd hf hat;obtain⟨ha,hb,hx⟩:=Pu.ag.two hat;rw [show m+(aM.cat a b).size-1=m+a.size+b.size by simp only [aM.size];omega];refine (Qc B g i s ns vn vl modes down hn gg gf cap gs fo _ _ _ _ _ _ _ _ _ _ _ _ w hd hf hx (fun W d f=>iha m fo W d f ha) (fun W d f=>ihb (m+a.size) _ W d f hb)).mono (fun e w' h=>?_);exact jV.Ap h (fun k=>rfl) (fun k=>rfl) (fun a c=>by simp [Pu.CU,Bool.or_assoc])
 | alt a b iha ihb=>intro m fo w hd hf hat;obtain⟨ha,hb,hx⟩:=Pu.ag.two hat;rw [show m+(aM.alt a b).size-1=m+a.size+b.size by simp only [aM.size];omega];refine (Qa B g i s ns vn vl modes down hn gg gf cap gs fo _ _ _ _ _ _ _ _ _ _ _ _ w hd hf hx (fun W d f=>iha m fo W d f ha) (fun W d f=>ihb (m+a.size) _ W d f hb)).mono (fun e w' h=>?_);exact jV.Ap h (fun k=>rfl) (fun k=>rfl) (fun a c=>by simp [Pu.CU,Bool.or_assoc])
 | star a ih=>?_
 | plus a ih=>?_
 | opt a ih=>?_
 all_goals
  intro m fo w hd hf hat;obtain⟨ha,hx⟩:=Pu.ag.one hat
 .rw [show m+(aM.star a).size-1=m+a.size by simp only [aM.size];omega];refine (AQ B g i s ns vn vl modes down hn gg gf cap gs fo _ _ _ _ _ _ _ _ w hd hf hx (.inl rfl) (fun W d f=>ih m fo W d f ha)).mono (fun e w' h=>?_);have:=jV.Ap h (fun k=>rfl) (fun k=>rfl) (Gm:=fun x c=>fo x c || Pu.CU (.star a) m x c) (fun a c=>by simp [Pu.CU,Bool.or_assoc]);rwa [show (a.iM || decide ((4:Nat)≠5))=(aM.star a).iM by simp [aM.iM]] at this
 .rw [show m+(aM.plus a).size-1=m+a.size by simp only [aM.size];omega];refine (AQ B g i s ns vn vl modes down hn gg gf cap gs fo _ _ _ _ _ _ _ _ w hd hf hx (.inr (.inl rfl)) (fun W d f=>ih m fo W d f ha)).mono (fun e w' h=>?_);have:=jV.Ap h (fun k=>rfl) (fun k=>rfl) (Gm:=fun x c=>fo x c || Pu.CU (.plus a) m x c) (fun a c=>by simp [Pu.CU,Bool.or_assoc]);rwa [show (a.iM || decide ((5:Nat)≠5))=(aM.plus a).iM by simp [aM.iM]] at this
 .rw [show m+(aM.opt a).size-1=m+a.size by simp only [aM.size];omega];refine (AQ B g i s ns vn vl modes down hn gg gf cap gs fo _ _ _ _ _ _ _ _ w hd hf hx (.inr (.inr rfl)) (fun W d f=>ih m fo W d f ha)).mono (fun e w' h=>?_);have:=jV.Ap h (fun k=>rfl) (fun k=>rfl) (Gm:=fun x c=>fo x c || Pu.CU (.opt a) m x c) (fun a c=>by simp [Pu.CU]);rwa [show (a.iM || decide ((6:Nat)≠5))=(aM.opt a).iM by simp [aM.iM]] at this
theorem Bl.congr {W:W_} {g:Nat} {f f':Nat->Bool} (h:Bl W g n f) (e:∀k,k<n->f k=f' k):Bl W g n f':=by unfold Bl at *;rw [<-oU e];exact h
theorem Bl.set {W:W_} {g:Nat} {f:Nat->Bool} (h:Bl W g n f) (k:Nat) (b:Bool):Bl (W.setCell (a_ g k) (.bool b)) g n (uf f k b):=by have:=cO h k (.bool b);rw [CS] at this;exact this
theorem oQ {B g k:Nat} {w W:W_} {v:V_} (h:Below B w W) (hg:B<=g) (hs:B<=W.heap.size):Below B w (W.setCell (a_ g k) v):=
 h.grown (gs_ W g k v) hs (fun k' e=>by cases e;exact hg)
theorem aal (B g aS:Nat) (s:Y_) (ns:List aF) (vn vl:V_) (modes down:Int) (hn:ns.length<=100000) (gg gf cap gF gS:Nat) (gs:List Nat) (fo:Nat->Nat->Bool) (F S:Nat->Bool) (bg:Bool) (c:Nat) (hc:c<256) (w:W_) (hd:Dr B g s aS ns vn vl modes down w) (hf:Gf w gg g gf cap ns.length gs fo) (hF:Bl w gF ns.length F) (hS:Bl w gS ns.length S) :
  C_ 99 #[p_ gg,cZ gF ns.length,cZ gS ns.length,.bool bg,I_ c] w (Ry ns.length (mP ns F fo S bg c) w):=by
 have hmk:=qx ns.length hn;obtain⟨an,cn,rfl,_,_⟩:=dS hd.own;have HD:=bK hd;have HG:=bK hf;have HF:=bK hF;have HS:=bK hS;have B0:Hid (B_ w (w.alloc (c_ (qM ns.length (fun _=>false)).toArray 4))):=mi _;have O0:Hid (Bl (w.alloc (c_ (qM ns.length (fun _=>false)).toArray 4)) w.heap.size ns.length (fun _=>false)):=hn_ _ _;have c0:=bP 0 hf.b rfl;have c1:=bP 1 hd.rb rfl;clear hd hf hF hS;go_enter Tryz.func99,Tryz.ntmps99
 go_wp2_with fail
 clear c0 c1 hmk
 go_loopg [12,13] ns.length (fun gk kv _ wx=>∃(k:Nat),k<=ns.length/\gk=ns.length-k/\kv=I_ k/\B_ w wx/\Bl wx w.heap.size ns.length (fun j=>decide (j<k) && mP ns F fo S bg c j))
 case atStart=>exact⟨0,zl_ _,rfl,rfl,B0.o,O0.o.congr (fun k _=>by simp)⟩
 case round=>
  clear B0 O0;obtain⟨k,kl,rfl,rfl,hb,ho⟩:=hrel;have HB:=bK hb;have HO:=bK ho;by_cases hk:k<ns.length
  .have d1:=nV k ns.length;have wk:=kg k;have Mr:=jg k;have Ij:(k:Int)<ns.length:=by omega
   have ic0:=jg c;have ic1:(c:Int)<256:=by omega
   obtain⟨x,hx⟩:=qG ns k hk;have D2:=HD.o.below hb;have G2:=HG.o.below hb;have c0:=bP 0 G2.b rfl;have c1:=bP 1 D2.rb rfl;obtain⟨gn,e1,_,y0,yc⟩:=D2.cell hx;subst e1;have y1:=yc c hc;have TK:Hid (Pu.tkN ns k c=(decide (x.kind=1) && x.inn c)):=by show _=_;unfold Pu.tkN;rw [hx]
   have SKIP:Hid (Pu.tkN ns k c=false->Bl wr w.heap.size ns.length (fun j=>decide (j<k+1) && mP ns F fo S bg c j)):=fun e=>HO.o.congr (fun j _=>by
    by_cases ej:j=k
    .subst ej;simp [mP,e]
    .rw [show decide (j<k+1)=decide (j<k) by rw [decide_eq_decide];omega])
   clear yc hx D2 ho;by_cases ek:x.kind=1
   .have ek':(x.kind:Int)=1:=by omega
    rw [ek'] at y0
    cases ei:x.inn c with
    | false=>
     have R:=bK (SKIP.o (by rw [TK.o,ei,Bool.and_false]));rw [ei] at y1;clear SKIP TK ek ek' ei HO hb G2;go_wp2;go_roundg (ns.length-(k+1))
     case measure=>omega
     case rel=>exact⟨k+1,by omega,rfl,by go_num,HB.o,R.o⟩
    | true=>
     have T2:Hid (Pu.tkN ns k c=true):=by rw [TK.o,ei,dt_ ek];rfl
     rw [ei] at y1;clear SKIP TK ek ek' ei;have co:=bM HO.o (gH _ hk);have fr:=bL HO.o k;have sz:=HB.o.size;have cf:=bM (bN HF.o hb (bO HF.o)) (gH F hk)
     cases bg with
     | true=>
      have O2:Hid (Bl (wr.setCell (a_ w.heap.size k) (.bool (F k))) w.heap.size ns.length (fun j=>decide (j<k+1) && mP ns F fo S true c j)):=(HO.o.set k (F k)).congr (fun j _=>by
       unfold uf;by_cases ej:j=k
       .subst ej;simp [mP,T2.o]
       .rw [if_neg ej,show decide (j<k+1)=decide (j<k) by rw [decide_eq_decide];omega])
      have B2:=bK (oQ (k:=k) (v:=.bool (F k)) hb di sz);clear T2 HO hb G2;generalize F k=fk at *;go_wp2;go_roundg (ns.length-(k+1))
      case measure=>omega
      case rel=>exact⟨k+1,by omega,rfl,by go_num,B2.o,O2.o⟩
     | false=>
      clear hb G2 cf co fr
      go_wp2_with fail
      go_loopg [13] ns.length (fun gk iv wx=>∃(i:Nat),i<=ns.length/\gk=ns.length-i/\iv=I_ i/\B_ w wx/\Bl wx w.heap.size ns.length (fun j=>(decide (j<k) && mP ns F fo S false c j) || (decide (j=k) && (List.range i).any (fun a=>S a && fo a k))))
      case atStart=>exact⟨0,zl_ _,rfl,rfl,HB.o,HO.o.congr (fun j _=>by simp)⟩
      case round=>
       clear HB HO c0 c1 y0 y1;obtain⟨i,il,rfl,rfl,hb,ho⟩:=hrel;have HB:=bK hb;have HO:=bK ho;have sz:=HB.o.size;have VAL:Hid (∀i,((decide (k<k) && mP ns F fo S false c k) || (decide (k=k) && (List.range i).any (fun a=>S a && fo a k)))=(List.range i).any (fun a=>S a && fo a k)):=fun i=>by simp
       have co:=bM ho (gH _ hk);rw [VAL.o i] at co;have fr:=bL ho k
       have DONE:Hid ((List.range i).any (fun a=>S a && fo a k)=(List.range ns.length).any (fun a=>S a && fo a k)->Bl wr w.heap.size ns.length (fun j=>decide (j<k+1) && mP ns F fo S false c j)):=fun e=>HO.o.congr (fun j _=>by
        by_cases ej:j=k
        .subst ej;rw [e];simp [mP,T2.o]
        .rw [show decide (j<k+1)=decide (j<k) by rw [decide_eq_decide];omega,dn_ ej,Bool.false_and,Bool.or_false])
       by_cases hi:i<ns.length
       .have d2:=nV i ns.length
        cases ea:(List.range i).any (fun a=>S a && fo a k) with
        | true=>
         have R:=bK (DONE.o (by
          rw [ea];symm;rw [List.any_eq_true] at *;obtain⟨a,h1,h2⟩:=ea
          exact⟨a,List.mem_range.2 (by have:=List.mem_range.1 h1;omega),h2⟩))
         rw [ea] at co;clear DONE VAL HO ho hb ea T2;go_wp2;go_roundg (ns.length-(k+1))
         case measure=>omega
         case rel=>exact⟨k+1,by omega,rfl,by go_num,HB.o,R.o⟩
        | false=>
         rw [ea] at co;have G2:=HG.o.below hb;have cs:=bM (bN HS.o hb (bO HS.o)) (gH S hi);obtain⟨gi,hgi⟩:∃g,gs[i]?=some g:=⟨_,gg_ (by rw [G2.len];exact hi)⟩;have c0:=bP 1 G2.b rfl;have aO:=bT G2.own (eY hgi);have cr:=bM (G2.row i gi hgi) (gH _ hk);have wi:=kg i;have ii0:=jg i;have ii1:(i:Int)<ns.length:=by omega
         have O2:Hid (Bl (wr.setCell (a_ w.heap.size k) (.bool (S i && fo i k))) w.heap.size ns.length (fun j=>(decide (j<k) && mP ns F fo S false c j) || (decide (j=k) && (List.range (i+1)).any (fun a=>S a && fo a k)))):=(HO.o.set k (S i && fo i k)).congr (fun j _=>by
          unfold uf;by_cases ej:j=k
          .subst ej;rw [if_pos rfl,List.range_succ,List.any_append,ea];simp
          .rw [if_neg ej];simp [ej])
         have B2:=bK (oQ (k:=k) (v:=.bool (S i && fo i k)) hb di sz);clear DONE VAL HO HB ho hb ea T2 G2
         cases eS:S i with
         | false=>?_
         | true=>?_
         focus
          rw [eS] at cs O2 B2;rw [Bool.false_and] at O2 B2
         rotate_left
         focus
          rw [eS] at cs O2 B2;rw [Bool.true_and] at O2 B2
         all_goals
          clear eS;go_wp2;go_roundg (ns.length-(i+1))
          case measure=>omega
          case rel=>exact⟨i+1,by omega,rfl,by go_num,B2.o,O2.o⟩
       .have d2:=mM i ns.length;have e:i=ns.length:=by omega
        have R:=bK (DONE.o (by rw [e]));clear DONE VAL HO ho hb T2 co;go_wp2;go_roundg (ns.length-(k+1))
        case measure=>omega
        case rel=>exact⟨k+1,by omega,rfl,by go_num,HB.o,R.o⟩
   .have R:=bK (SKIP.o (by rw [TK.o,dn_ ek,Bool.false_and]));have ek1:decide ((x.kind:Int)=1)=false:=dn_ (by omega);have ek2:((x.kind:Int) == 1)=false:=by simp;omega
    have ek3:((x.kind:Int) != 1)=true:=by simp;omega
    have ek4:decide ((x.kind:Int)≠1)=true:=dt_ (by omega);clear SKIP TK ek HO hb G2;generalize (x.kind:Int)=kv at *;go_wp2;go_roundg (ns.length-(k+1))
    case measure=>omega
    case rel=>exact⟨k+1,by omega,rfl,by go_num,HB.o,R.o⟩
  .have d1:=mM k ns.length;have R:Hid (Bl wr w.heap.size ns.length (mP ns F fo S bg c)):=ho.congr (fun j hj=>by rw [dt_ (by omega),Bool.true_and]);clear HO ho hb;go_wp2;go_ret;exact⟨_,rfl,HB.o,di,R.o⟩
def af5 (ga L:Nat) (a b:Nat->Bool) (w:W_) (e:Ending) (w':W_):Prop:=e=.returned (.bool (Pu.dQ L a b))/\w.grownBy w' (some ga)/\Bl w' ga L (iw a b)
theorem kZ (ga gb L:Nat) (a b:Nat->Bool) (w:W_) (ha:Bl w ga L a) (hb:Bl w gb L b) (ne:gb≠ga) (hL:L<=100000) :
  C_ 164 #[s_ ga L L,s_ gb L L] w (af5 ga L a b w):=by
 have HA:=bK ha;have HB:=bK hb;have NE:=bK ne;clear ha hb ne;go_enter Tryz.func164,Tryz.ntmps164
 go_wp2_with fail
 go_loopg [5,6] L (fun gk mv iv wx=>∃i:Nat,i<=L/\gk=L-i/\mv=.bool ((List.range i).any (fun j=>b j && !a j))/\iv=I_ i/\w.grownBy wx (some ga)/\Bl wx ga L (fun j=>a j || (decide (j<i) && b j)))
 case atStart=>exact⟨0,zl_ _,rfl,rfl,rfl,World.grownBy.refl _ _,HA.o.congr (fun j _=>by simp)⟩
 case round=>
  obtain⟨i,il,rfl,rfl,rfl,hg,ho⟩:=hrel;have HG:=bK hg;have HO:=bK ho;by_cases hi:i<L
  .have d1:=nV i L;have wi:=kg i;have aS:=jg i;have i1:(i:Int)<L:=by omega
   have cb:=bM (bQ HB.o hg (fun e=>NE.o (oi_ e))) (gH b hi);have ca:=bM ho (gH _ hi);have aP:=bL ho i;have VA:Hid ((a i || (decide (i<i) && b i))=a i):=by show _=_;simp
   rw [VA.o] at ca;have NX:Hid ((List.range (i+1)).any (fun j=>b j && !a j)=((List.range i).any (fun j=>b j && !a j) || (b i && !a i))):=by show _=_;rw [List.range_succ,List.any_append];simp
   have vJ:Hid ((b i && !a i)=false->Bl wr ga L (fun j=>a j || (decide (j<i+1) && b j))):=fun e=>HO.o.congr (fun j _=>by
    by_cases ej:j=i
    .subst ej
     cases hb:b j with
     | false=>simp
     | true=>
      rw [hb] at e;have:a j=true:=by simpa using e
      rw [this];rfl
    .rw [show decide (j<i+1)=decide (j<i) by rw [decide_eq_decide];omega])
   have SET:Hid ((b i && !a i)=true->Bl (wr.setCell (a_ ga i) (.bool true)) ga L (fun j=>a j || (decide (j<i+1) && b j))/\w.grownBy (wr.setCell (a_ ga i) (.bool true)) (some ga)):=fun e=>⟨(HO.o.set i true).congr (fun j _=>by
    unfold uf;by_cases ej:j=i
    .subst ej;rw [if_pos rfl];have:b j=true:=by cases hb:b j <;> rw [hb] at e <;> simp at e |-
     rw [this];simp
    .rw [if_neg ej,show decide (j<i+1)=decide (j<i) by rw [decide_eq_decide];omega]),Lib.grownBy_setB HG.o i (.bool true)⟩
   clear hg ho VA;generalize (List.range i).any (fun j=>b j && !a j)=m at *
   cases e1:b i with
   | false=>
    have R:=bK (vJ.o (by rw [e1];rfl));have N2:Hid ((List.range (i+1)).any (fun j=>b j && !a j)=m):=by show _=_;rw [NX.o,e1];simp
    rw [e1] at cb;clear vJ SET NX e1;go_wp2;go_roundg (L-(i+1))
    case measure=>omega
    case rel=>exact⟨i+1,by omega,rfl,by rw [N2.o],by go_num,HG.o,R.o⟩
   | true=>
    cases e2:a i with
    | true=>
     have R:=bK (vJ.o (by rw [e1,e2];rfl));have N2:Hid ((List.range (i+1)).any (fun j=>b j && !a j)=m):=by show _=_;rw [NX.o,e1,e2];simp
     rw [e1] at cb;rw [e2] at ca;clear vJ SET NX e1 e2;go_wp2;go_roundg (L-(i+1))
     case measure=>omega
     case rel=>exact⟨i+1,by omega,rfl,by rw [N2.o],by go_num,HG.o,R.o⟩
    | false=>
     have R:=bK (SET.o (by rw [e1,e2];rfl));have N2:Hid ((List.range (i+1)).any (fun j=>b j && !a j)=true):=by show _=_;rw [NX.o,e1,e2];simp
     rw [e1] at cb;rw [e2] at ca;clear vJ SET NX e1 e2;go_wp2;go_roundg (L-(i+1))
     case measure=>omega
     case rel=>exact⟨i+1,by omega,rfl,by rw [N2.o],by go_num,R.o.2,R.o.1⟩
  .have d1:=mM i L;have ei:i=L:=by omega
   have R:Hid (Bl wr ga L (iw a b)):=ho.congr (fun j hj=>by rw [dt_ (show j<i by omega),Bool.true_and];rfl);have GR:Hid ((List.range i).any (fun j=>b j && !a j)=Pu.dQ L a b):=by rw [ei];exact rfl
   clear hg ho HO;go_wp2;go_ret;exact⟨by rw [<-GR.o];rfl,HG.o,R.o⟩
end Go.Proofs.YtmccnmgaoppogaaGreat
