import Derived.Test.YtmccnmgaoppogaaGreatHE
namespace Go.Proofs.YtmccnmgaoppogaaGreat
open Pu
set_option linter.all false
set_option maxRecDepth 100000
set_option maxHeartbeats 8000000
open Go.RowKit
theorem uh {P:Program} {w:W_} {ops:Array Oper} {rest:List Oper} {o:Oper} {a:Act} {Q:Exit->Act->W_->Prop} (hgd:o.guard=none) (t:TypeId) (x0 x1:Operand) (v0 v1:V_) (ho:o.op=.build t #[(0,x0),(1,x1)]) (h0:a.eval x0=v0) (h1:a.eval x1=v1) (cells:Array V_) (hf:P.built t [(0,v0),(1,v1)]=some cells)
  (h:wpList P ops Q rest (a.put o.dst (.agg cells)) w):wpList P ops Q (o::rest) a w:=
 wpList_plain hgd fun K hK=>by subst h0 h1;have hr:=run_build (P:=P) w t #[(0,a.eval x0),(1,a.eval x1)] cells hf;unfold Oper.wp execOp;simp only [ho,Sem.run_bind,List.map_toArray,List.map_cons,List.map_nil];rw [hr];exact hK _ _ h
theorem yx {P:Program} {w:W_} {ops:Array Oper} {rest:List Oper} {o:Oper} {a:Act} {Q:Exit->Act->W_->Prop} (hgd:o.guard=none) (t:TypeId) (x0 x1 x2:Operand) (v0 v1 v2:V_) (ho:o.op=.build t #[(0,x0),(1,x1),(2,x2)]) (h0:a.eval x0=v0) (h1:a.eval x1=v1) (h2:a.eval x2=v2) (cells:Array V_) (hf:P.built t [(0,v0),(1,v1),(2,v2)]=some cells)
  (h:wpList P ops Q rest (a.put o.dst (.agg cells)) w):wpList P ops Q (o::rest) a w:=
 wpList_plain hgd fun K hK=>by subst h0 h1 h2;have hr:=run_build (P:=P) w t #[(0,a.eval x0),(1,a.eval x1),(2,a.eval x2)] cells hf;unfold Oper.wp execOp;simp only [ho,Sem.run_bind,List.map_toArray,List.map_cons,List.map_nil];rw [hr];exact hK _ _ h
structure DL (B g:Nat) (s:Y_) (k:Nat) (ns:List aF) (a:aM) (al:Option Addr) (nl cl:Nat) (modes down:Int) (D:Bool) (w:W_) (nv:V_) (W:W_):Prop where
 dr:∃vn,Dr B g s k (ns++Pu.nodes a ns.length) vn (.slice al nl cl) modes (oF nl D down) W
 dk:Dk B w W
 n:nv=I_ ((ns.length+a.size-1:Nat):Int)
 sz:ns.length+a.size<=2*k
theorem jq (ns:List aF) (a:aM):(ns++Pu.nodes a ns.length).length=ns.length+a.size:=by rw [la_,Pu.bR]
theorem Eb (s:Y_) (i:Nat) (AT:DOK 152 .atom s i) (hs:s.size<=400):DOK 146 .pc s i:=by
 intro j re D hP hF B g ns vn al nl cl modes down w h hl
 cases hP with
 | @pc _ j1 _ a _ D1 _ hA hR=>
 have szA:=hA.size;simp only [aH.sz,aH.un] at szA;have fw:=bK (AT j1 a D1 hA trivial B g ns vn al nl cl modes down w h hl);have hj:j<s.size:=hF;have HR:=bK hR;have j1j:=hR.leaves.2;clear hF h hA hR AT;go_enter Tryz.func146,Tryz.ntmps146
 go_wp2_with fail
 refine fw.o.mono ?_
 clear fw;rintro e w1 ⟨rfl,hk1,vn1,hd1⟩
 have L1:Hid (DL B g s j1 ns a al nl cl modes down D1 w (I_ ((ns.length+a.size-1:Nat):Int)) w1):=⟨⟨vn1,hd1⟩,hk1,rfl,by omega⟩
 clear hk1 hd1
 go_wp2_with fail
 go_loopg [3,4] (s.size-j1) (fun gk nv _ wx=>∃k b D2,gk=s.size-k/\k<=j/\DL B g s k ns b al nl cl modes down D2 w nv wx/\Pu.P s (.OE b D2) k j re D)
 case atStart=>exact⟨j1,a,D1,rfl,j1j,L1.o,HR.o⟩
 case round=>
  clear L1 HR;obtain⟨k,b,D2,rfl,kj,hL,hR⟩:=hrel;obtain⟨Rj,hd2⟩:=hL.dr;have hn:=hL.n;subst hn;have ks:k<s.size:=by omega
  have xk:=fun w=>dU s (k:Int) k rfl (by omega) w
  have pb:=lK ks;rw [<-pb] at xk;have k0:=jg k;have k1:(k:Int)<s.size:=by omega
  have wk:=kg k;have c4:=bP 4 hd2.rb rfl;have c5:=bP 5 hd2.rb rfl;have H2:=bK hd2;have HL:=bK hL;have lsz:=hL.sz;clear hL hd2 pb;generalize hrn:((ns.length+b.size-1:Nat):Int)=rn at *;have WO:=bK hrn;clear hrn
  cases hR with
  | EZ h1 h2 h3=>
   have e1:(Pu.dG s j == 42)=false:=by simpa using h1
   have e2:(Pu.dG s j == 43)=false:=by simpa using h2
   have e3:(Pu.dG s j == 63)=false:=by simpa using h3
   clear h1 h2 h3;generalize Pu.dG s j=pk at *
   go_wp2_with fail
   go_quiet (fail);have dn:=bd_ (Br_ wr.heap.size wr) nq;have D3:=bK (H2.o.below dn);have K3:Hid (Dk B w (wr.drewN nq)):=HL.o.dk.trans (.below H2.o.lt dn);clear dn H2 HL c4 c5 xk;generalize wr.drewN nq=W3 at *;go_wp2;go_ret;exact⟨by rw [WO.o];rfl,K3.o,Rj,D3.o⟩
  | star h1 hR2=>?_
  | plus h1 hR2=>?_
  | opt h1 hR2=>?_
  all_goals
   rw [h1] at xk;have k2:=hR2.leaves.2;have HR2:=bK hR2
  focus
   have SB:=bK (xe 4 rn);have ND:Hid ((I_ 4::I_ rn::I_ 0::cK Pu.dP)=dN ⟨4,ns.length+b.size-1,0,Pu.dP⟩):=by show _=_;unfold dN;simp only;rw [WO.o];rfl
  rotate_left
  focus
   have SB:=bK (xe 5 rn);have ND:Hid ((I_ 5::I_ rn::I_ 0::cK Pu.dP)=dN ⟨5,ns.length+b.size-1,0,Pu.dP⟩):=by show _=_;unfold dN;simp only;rw [WO.o];rfl
  rotate_left
  focus
   have SB:=bK (xe 6 rn);have ND:Hid ((I_ 6::I_ rn::I_ 0::cK Pu.dP)=dN ⟨6,ns.length+b.size-1,0,Pu.dP⟩):=by show _=_;unfold dN;simp only;rw [WO.o];rfl
  rotate_left
  all_goals
   rw [ND.o] at SB;clear h1 hR2 ND
   go_wp2_with fail
   go_quiet (fail);have dn:=bd_ (Br_ wr.heap.size wr) nq;have D3:=bK (H2.o.below dn);have K3:Hid (Dk B w (wr.drewN nq)):=HL.o.dk.trans (.below H2.o.lt dn);clear dn H2 HL c4 c5 xk;generalize wr.drewN nq=W3 at *;have c5:=bP 5 D3.o.rb rfl;have f5:=bL D3.o.rb 5;have hg4:=gs_ W3 g 5 (I_ ((k:Int)+1));have D4:Hid (Dr B g s (k+1) (ns++Pu.nodes b ns.length) Rj (.slice al nl cl) modes (oF nl D2 down) (W3.setCell (a_ g 5) (I_ ((k:Int)+1)))):=D3.o.eP hg4 (D3.o.rb.at (k+1));have K4:=bK (K3.o.trans (D3.o.dk hg4));clear hg4;go_upto_region 13 with (fail);clear c5 f5 D3 K3;generalize W3.setCell (a_ g 5) (I_ ((k:Int)+1))=W4 at *
  focus
   go_wp2_with (refine uh rfl 161 (.tmp 33) (.tmp 34) (I_ 4) (I_ rn) rfl rfl rfl _ SB.o ?_)
   refine (om B g (k+1) s _ Rj (.slice al nl cl) modes _ ⟨4,ns.length+b.size-1,0,Pu.dP⟩ W4 D4.o (by rw [jq];omega)).mono ?_
  rotate_left
  focus
   go_wp2_with (refine uh rfl 161 (.tmp 33) (.tmp 34) (I_ 5) (I_ rn) rfl rfl rfl _ SB.o ?_)
   refine (om B g (k+1) s _ Rj (.slice al nl cl) modes _ ⟨5,ns.length+b.size-1,0,Pu.dP⟩ W4 D4.o (by rw [jq];omega)).mono ?_
  rotate_left
  focus
   go_wp2_with (refine uh rfl 161 (.tmp 33) (.tmp 34) (I_ 6) (I_ rn) rfl rfl rfl _ SB.o ?_)
   refine (om B g (k+1) s _ Rj (.slice al nl cl) modes _ ⟨6,ns.length+b.size-1,0,Pu.dP⟩ W4 D4.o (by rw [jq];omega)).mono ?_
  rotate_left
  all_goals
   rintro e w5 ⟨rfl,hk5,Ke,hd5⟩;rw [jq];rw [aa_] at hd5
  focus have L5:Hid (DL B g s (k+1) ns (.star b) al nl cl modes down D2 w (I_ ((ns.length+b.size:Nat):Int)) w5):=⟨⟨Ke,hd5⟩,K4.o.trans hk5,by show I_ ((ns.length+b.size:Nat):Int)=I_ ((ns.length+(b.size+1)-1:Nat):Int);rw [show ns.length+(b.size+1)-1=ns.length+b.size by omega],by show ns.length+(b.size+1)<=_;omega⟩
  rotate_left
  focus have L5:Hid (DL B g s (k+1) ns (.plus b) al nl cl modes down D2 w (I_ ((ns.length+b.size:Nat):Int)) w5):=⟨⟨Ke,hd5⟩,K4.o.trans hk5,by show I_ ((ns.length+b.size:Nat):Int)=I_ ((ns.length+(b.size+1)-1:Nat):Int);rw [show ns.length+(b.size+1)-1=ns.length+b.size by omega],by show ns.length+(b.size+1)<=_;omega⟩
  rotate_left
  focus have L5:Hid (DL B g s (k+1) ns (.opt b) al nl cl modes down D2 w (I_ ((ns.length+b.size:Nat):Int)) w5):=⟨⟨Ke,hd5⟩,K4.o.trans hk5,by show I_ ((ns.length+b.size:Nat):Int)=I_ ((ns.length+(b.size+1)-1:Nat):Int);rw [show ns.length+(b.size+1)-1=ns.length+b.size by omega],by show ns.length+(b.size+1)<=_;omega⟩
  all_goals
   clear hk5 hd5 D4 K4 SB;generalize ((ns.length+b.size:Nat):Int)=rn2 at *;go_wp2;go_roundg (s.size-(k+1))
   case measure=>omega
   case rel=>exact⟨k+1,_,D2,rfl,by omega,L5.o,HR2.o⟩
namespace Pu
theorem Sy {s:Y_} {a re:aM} {k j:Nat} {D D':Bool} (h:P s (.yJ a D) k j re D') (hf:Xi s .pa j):Xi s .br k:=by
 cases h with
 | GJ _=>
  rcases hf with h | h
  .exact .inl h
  .exact .inr (.inr h)
 | yJ h1 _ _=>exact .inr (.inl h1)
theorem Sz {s:Y_} {k:Nat} (h:Xi s .br k):k<s.size:=fB (by rcases h with h | h | h <;> rw [h] <;> decide)
theorem YD {s:Y_} {k:Nat} (h:Xi s .pa k):k<s.size:=fB (by rcases h with h | h <;> rw [h] <;> decide)
end Pu
theorem Iy (ns:List aF) (a b:aM) (k:Nat):(ns++Pu.nodes a ns.length)++Pu.nodes b (ns.length+a.size)++[⟨k,ns.length+a.size-1,ns.length+a.size+b.size-1,Pu.dP⟩]=ns++(Pu.nodes a ns.length++Pu.nodes b (ns.length+a.size)++[⟨k,ns.length+a.size-1,ns.length+a.size+b.size-1,Pu.dP⟩]):=by simp
theorem BJ (s:Y_) (i:Nat) (PC:∀k,i<=k->k<s.size->DOK 146 .pc s k) (hs:s.size<=400):DOK 121 .br s i:=by
 intro j re D hP hF B g ns vn al nl cl modes down w h hl;have js:j<s.size:=Sz hF
 cases hP with
 | @br _ j1 _ a _ D1 _ hA hR=>
 have szA:=hA.size;simp only [aH.sz,aH.un] at szA;have j1j:=hR.leaves.2;have ij1:=hA.leaves.2;have fw:=bK (PC i di (by omega) j1 a D1 hA (show j1<s.size by omega) B g ns vn al nl cl modes down w h hl);have HF:=bK hF;have HR:=bK hR;have PC:=bK PC;clear hF h hA hR;go_enter Tryz.func121,Tryz.ntmps121
 go_wp2_with fail
 refine fw.o.mono ?_
 clear fw;rintro e w1 ⟨rfl,hk1,vn1,hd1⟩
 have L1:Hid (DL B g s j1 ns a al nl cl modes down D1 w (I_ ((ns.length+a.size-1:Nat):Int)) w1):=⟨⟨vn1,hd1⟩,hk1,rfl,by omega⟩
 clear hk1 hd1
 go_wp2_with fail
 go_loopg [3,4,5] (s.size-j1) (fun gk nv _ _ wx=>∃k b D2,gk=s.size-k/\k<=j/\i<=k/\DL B g s k ns b al nl cl modes down D2 w nv wx/\Pu.P s (.zn b D2) k j re D)
 case atStart=>exact⟨j1,a,D1,rfl,j1j,ij1,L1.o,HR.o⟩
 case round=>
  clear L1 HR;obtain⟨k,b,D2,rfl,kj,ik,hL,hR⟩:=hrel;obtain⟨Rj,hd2⟩:=hL.dr;have hn:=hL.n;subst hn;have ks:k<s.size:=by omega
  have xk:=fun w=>dU s (k:Int) k rfl (by omega) w
  have pb:=lK ks;rw [<-pb] at xk;have k0:=jg k;have k1:(k:Int)<s.size:=by omega
  have c4:=bP 4 hd2.rb rfl;have c5:=bP 5 hd2.rb rfl;have H2:=bK hd2;have HL:=bK hL;have lsz:=hL.sz;clear hL hd2 pb;generalize hrn:((ns.length+b.size-1:Nat):Int)=rn at *;have WO:=bK hrn;clear hrn
  cases hR with
  | Jf _=>
   have hf:=HF.o;generalize hpk:Pu.dG s j=pk at xk;have hf:pk=32\/pk=124\/pk=41:=by rw [<-hpk];exact hf
   clear hpk HF PC;rcases hf with rfl | rfl | rfl
   all_goals
    go_wp2_with fail
    go_quiet (fail);have dn:=bd_ (Br_ wr.heap.size wr) nq;have D3:=bK (H2.o.below dn);have K3:Hid (Dk B w (wr.drewN nq)):=HL.o.dk.trans (.below H2.o.lt dn);clear dn H2 HL c4 c5 xk;generalize wr.drewN nq=W3 at *;go_wp2;go_ret;exact⟨by rw [WO.o];rfl,K3.o,Rj,D3.o⟩
  | @zn _ j2 _ _ b2 _ _ Db _ hbeg hp2 hR2=>
   have j2j:=hR2.leaves.2;have szB:=hp2.size;have kj2:=hp2.leaves;have lp:=aM.uX b2;simp only [aH.sz,aH.un,aH.lv] at szB kj2;have e1:(Pu.dG s k == 32)=false:=by unfold fJ at hbeg;simp;omega
   have e2:(Pu.dG s k == 124)=false:=by unfold fJ at hbeg;simp;omega
   have e3:(Pu.dG s k == 41)=false:=by unfold fJ at hbeg;simp;omega
   have HR2:=bK hR2;have fw:=bK (fun w1 vn (h1:Dr B g s k (ns++Pu.nodes b ns.length) vn (.slice al nl cl) modes (oF nl D2 down) w1)=>PC.o k ik ks j2 b2 Db hp2 (show j2<s.size by omega) B g _ vn al nl cl modes _ w1 h1 (by rw [jq];exact lsz));clear hbeg hp2 hR2;generalize Pu.dG s k=pk at *
   go_wp2_with fail
   go_quiet (fail);have dn:=bd_ (Br_ wr.heap.size wr) nq;have D3:=bK (H2.o.below dn);have K3:Hid (Dk B w (wr.drewN nq)):=HL.o.dk.trans (.below H2.o.lt dn);clear dn H2 HL c4 c5 xk;generalize wr.drewN nq=W3 at *
   go_wp2_with fail
   refine (fw.o W3 Rj D3.o).mono ?_
   clear fw;rintro e w4 ⟨rfl,hk4,vn4,hd4⟩;rw [jq] at hd4;rw [jq];have D4:=bK hd4;have K4:=bK (K3.o.trans hk4);clear hk4 hd4 D3 K3;generalize hrb:((ns.length+b.size+b2.size-1:Nat):Int)=rb at *;have SB:=bK (BR 2 rn rb);have ND:Hid ((I_ 2::I_ rn::I_ rb::cK Pu.dP)=dN ⟨2,ns.length+b.size-1,ns.length+b.size+b2.size-1,Pu.dP⟩):=by show _=_;unfold dN;simp only;rw [WO.o,hrb];rfl
   rw [ND.o] at SB;clear ND hrb
   go_wp2_with (refine yx rfl 161 (.const (.int .i64 2)) (.tmp 31) (.tmp 32) (I_ 2) (I_ rn) (I_ rb) rfl rfl rfl rfl _ SB.o ?_)
   refine (om B g j2 s _ vn4 (.slice al nl cl) modes _ ⟨2,ns.length+b.size-1,ns.length+b.size+b2.size-1,Pu.dP⟩ w4 D4.o (by rw [la_,jq,Pu.bR];omega)).mono ?_
   rintro e w5 ⟨rfl,hk5,Ke,hd5⟩;rw [Iy,Kc (by omega)] at hd5;rw [la_,jq,Pu.bR];have L5:Hid (DL B g s j2 ns (.cat b b2) al nl cl modes down (D2 || Db) w (I_ ((ns.length+b.size+b2.size:Nat):Int)) w5):=⟨⟨Ke,hd5⟩,K4.o.trans hk5,by show I_ ((ns.length+b.size+b2.size:Nat):Int)=I_ ((ns.length+(b.size+b2.size+1)-1:Nat):Int);rw [show ns.length+(b.size+b2.size+1)-1=ns.length+b.size+b2.size by omega],by show ns.length+(b.size+b2.size+1)<=_;omega⟩;clear hk5 hd5 D4 K4 SB;generalize ((ns.length+b.size+b2.size:Nat):Int)=rn2 at *;go_wp2;go_roundg (s.size-j2)
   case measure=>omega
   case rel=>exact⟨j2,_,_,rfl,by omega,by omega,L5.o,HR2.o⟩
theorem zt (s:Y_) (i:Nat) (PC:∀k,i<=k->k<s.size->DOK 121 .br s k) (hs:s.size<=400):DOK 95 .pa s i:=by
 intro j re D hP hF B g ns vn al nl cl modes down w h hl;have js:j<s.size:=YD hF
 cases hP with
 | @pa _ j1 _ a _ D1 _ hA hR=>
 have szA:=hA.size;simp only [aH.sz,aH.un] at szA;have j1j:=hR.leaves.2;have ij1:=hA.leaves.2;have fw:=bK (PC i di (by omega) j1 a D1 hA (Sy hR hF) B g ns vn al nl cl modes down w h hl);have HF:=bK hF;have HR:=bK hR;have PC:=bK PC;clear hF h hA hR;go_enter Tryz.func95,Tryz.ntmps95
 go_wp2_with fail
 refine fw.o.mono ?_
 clear fw;rintro e w1 ⟨rfl,hk1,vn1,hd1⟩
 have L1:Hid (DL B g s j1 ns a al nl cl modes down D1 w (I_ ((ns.length+a.size-1:Nat):Int)) w1):=⟨⟨vn1,hd1⟩,hk1,rfl,by omega⟩
 clear hk1 hd1
 go_wp2_with fail
 go_loopg [3,4] (s.size-j1) (fun gk nv _ wx=>∃k b D2,gk=s.size-k/\k<=j/\i<=k/\DL B g s k ns b al nl cl modes down D2 w nv wx/\Pu.P s (.yJ b D2) k j re D)
 case atStart=>exact⟨j1,a,D1,rfl,j1j,ij1,L1.o,HR.o⟩
 case round=>
  clear L1 HR;obtain⟨k,b,D2,rfl,kj,ik,hL,hR⟩:=hrel;obtain⟨Rj,hd2⟩:=hL.dr;have hn:=hL.n;subst hn;have ks:k<s.size:=by omega
  have xk:=fun w=>dU s (k:Int) k rfl (by omega) w
  have pb:=lK ks;rw [<-pb] at xk;have k0:=jg k;have k1:(k:Int)<s.size:=by omega
  have wk:=kg k;have c4:=bP 4 hd2.rb rfl;have c5:=bP 5 hd2.rb rfl;have H2:=bK hd2;have HL:=bK hL;have lsz:=hL.sz;clear hL hd2 pb;generalize hrn:((ns.length+b.size-1:Nat):Int)=rn at *;have WO:=bK hrn;clear hrn
  cases hR with
  | GJ h124=>?_
  | @yJ _ j2 _ _ b2 _ _ Db _ h124 hp2 hR2=>?_
  focus
   have e1:(Pu.dG s j == 124)=false:=by simpa using h124
   generalize Pu.dG s j=pk at *;clear HF PC h124
  rotate_left
  focus
   rw [h124] at xk;have j2j:=hR2.leaves.2;have szB:=hp2.size;have kj2:=hp2.leaves;simp only [aH.sz,aH.un,aH.lv] at szB kj2;have FB:=Sy hR2 HF.o;have k1s:k+1<s.size:=by have:=Sz FB;have:=aM.uX b2;omega
   have HR2:=bK hR2;have fw:=bK (fun w1 vn (h1:Dr B g s (k+1) (ns++Pu.nodes b ns.length) vn (.slice al nl cl) modes (oF nl D2 down) w1)=>PC.o (k+1) (by omega) k1s j2 b2 Db hp2 FB B g _ vn al nl cl modes _ w1 h1 (by rw [jq];omega));clear h124 hp2 hR2 FB
  rotate_left
  all_goals
   go_wp2_with fail
   go_quiet (fail);have dn:=bd_ (Br_ wr.heap.size wr) nq;have D3:=bK (H2.o.below dn);have K3:Hid (Dk B w (wr.drewN nq)):=HL.o.dk.trans (.below H2.o.lt dn);clear dn H2 HL c4 c5 xk;generalize wr.drewN nq=W3 at *
  .go_wp2;go_ret;exact⟨by rw [WO.o];rfl,K3.o,Rj,D3.o⟩
  .have c5:=bP 5 D3.o.rb rfl;have f5:=bL D3.o.rb 5;have hg4:=gs_ W3 g 5 (I_ ((k:Int)+1));have D3':Hid (Dr B g s (k+1) (ns++Pu.nodes b ns.length) Rj (.slice al nl cl) modes (oF nl D2 down) (W3.setCell (a_ g 5) (I_ ((k:Int)+1)))):=D3.o.eP hg4 (D3.o.rb.at (k+1));have K3':=bK (K3.o.trans (D3.o.dk hg4));clear hg4
   go_wp2_with fail
   clear c5 f5 D3 K3;generalize W3.setCell (a_ g 5) (I_ ((k:Int)+1))=W4 at *;refine (fw.o W4 Rj D3'.o).mono ?_
   clear fw;rintro e w4 ⟨rfl,hk4,vn4,hd4⟩;rw [jq] at hd4;rw [jq];have D4:=bK hd4;have K4:=bK (K3'.o.trans hk4);clear hk4 hd4 D3' K3';generalize hrb:((ns.length+b.size+b2.size-1:Nat):Int)=rb at *;have SB:=bK (BR 3 rn rb);have ND:Hid ((I_ 3::I_ rn::I_ rb::cK Pu.dP)=dN ⟨3,ns.length+b.size-1,ns.length+b.size+b2.size-1,Pu.dP⟩):=by show _=_;unfold dN;simp only;rw [WO.o,hrb];rfl
   rw [ND.o] at SB;clear ND hrb
   go_wp2_with (refine yx rfl 161 (.const (.int .i64 3)) (.tmp 27) (.tmp 28) (I_ 3) (I_ rn) (I_ rb) rfl rfl rfl rfl _ SB.o ?_)
   refine (om B g j2 s _ vn4 (.slice al nl cl) modes _ ⟨3,ns.length+b.size-1,ns.length+b.size+b2.size-1,Pu.dP⟩ w4 D4.o (by rw [la_,jq,Pu.bR];omega)).mono ?_
   rintro e w5 ⟨rfl,hk5,Ke,hd5⟩;rw [Iy,Kc (by omega)] at hd5;rw [la_,jq,Pu.bR];have L5:Hid (DL B g s j2 ns (.alt b b2) al nl cl modes down (D2 || Db) w (I_ ((ns.length+b.size+b2.size:Nat):Int)) w5):=⟨⟨Ke,hd5⟩,K4.o.trans hk5,by show I_ ((ns.length+b.size+b2.size:Nat):Int)=I_ ((ns.length+(b.size+b2.size+1)-1:Nat):Int);rw [show ns.length+(b.size+b2.size+1)-1=ns.length+b.size+b2.size by omega],by show ns.length+(b.size+b2.size+1)<=_;omega⟩;clear hk5 hd5 D4 K4 SB;generalize ((ns.length+b.size+b2.size:Nat):Int)=rn2 at *;go_wp2;go_roundg (s.size-j2)
   case measure=>omega
   case rel=>exact⟨j2,_,_,rfl,by omega,by omega,L5.o,HR2.o⟩
theorem Jh (s:Y_) (hs:s.size<=400):∀i,DOK 95 .pa s i:=by
 have key:∀n i,s.size-i<=n->DOK 95 .pa s i:=by
  intro n
  induction n with
  | zero=>intro i hn;exact zt s i (fun k hk kl=>BJ s k (fun k' hk' kl'=>Eb s k' (wO s k' (fun hlt=>by omega) hs) hs) hs) hs
  | succ n ih=>intro i hn;exact zt s i (fun k hk kl=>BJ s k (fun k' hk' kl'=>Eb s k' (wO s k' (fun hlt=>ih (k'+1) (by omega)) hs) hs) hs) hs
 exact fun i=>key _ i di
structure JS (B g:Nat) (s:Y_) (k:Nat) (ps:List Pu.aJ) (d:Bool) (a:aK) (w:W_) (gR gP:Nat) (W:W_):Prop where
 rd:∃vp qs,Rd B g s k ps d vp qs W
 rk:Rk B w W
 r:dh W gR 83 [.bool false,n_,n_]
 p:∃af mf cf al nl cl,dh W gP 83 [.bool a.empty,.slice af mf cf,.slice al nl cl]/\ed W (.slice af mf cf) a.first/\ed W (.slice al nl cl) a.last
 ap:gR≠gP/\w.heap.size<=gR/\w.heap.size<=gP/\B<=w.heap.size
 ok:iU ps/\mI ps.length a/\ps.length<=k
section
variable {B g:Nat} {s:Y_} {k j:Nat} {ps ps':List Pu.aJ} {d d':Bool} {a a':aK} {w:W_} {gR gP:Nat} {W W':W_} {vp:V_} {qs:List (Pu.aJ × V_)}
theorem JS.below (h:JS B g s k ps d a w gR gP W) (hb:B_ W W'):JS B g s k ps d a w gR gP W':=by obtain⟨vp,qs,rd⟩:=h.rd;obtain⟨af,mf,cf,al,nl,cl,p1,p2,p3⟩:=h.p;exact⟨⟨vp,qs,rd.below hb⟩,h.rk.trans (.below rd.lt hb),bN h.r hb (bO h.r),⟨af,mf,cf,al,nl,cl,bN p1 hb (bO p1),p2.below hb,p3.below hb⟩,h.ap,h.ok⟩
theorem JS.on (h:JS B g s k ps d a w gR gP W) (rk:Rk B W W') (rd:Rd B g s j ps' d' vp qs W') (ok:iU ps'/\mI ps'.length a/\ps'.length<=j):JS B g s j ps' d' a w gR gP W':=by obtain⟨af,mf,cf,al,nl,cl,p1,p2,p3⟩:=h.p;exact⟨⟨vp,qs,rd⟩,h.rk.trans rk,rk.fA h.r (by decide) (by decide),⟨af,mf,cf,al,nl,cl,rk.fA p1 (by decide) (by decide),rk.jF p2,rk.jF p3⟩,h.ap,ok⟩
theorem JS.put (h:JS B g s k ps d a w gR gP W) {c:Bool} {af al:Option Addr} {mf cf nl cl:Nat} (pm:Pm W (.agg #[.bool c,.slice af mf cf,.slice al nl cl]) a') (oa:mI ps.length a'):JS B g s k ps d a' w gR gP (jO W gP (.bool c) (.slice af mf cf) (.slice al nl cl)):=by
 obtain⟨vp,qs,rd⟩:=h.rd;obtain⟨_,_,_,_,_,_,p1,_,_⟩:=h.p;obtain⟨_,_,_,_,_,_,hv,n1,n2⟩:=pm;cases hv
 have g5:=iP W gP (.bool a'.empty) (.slice af mf cf) (.slice al nl cl);exact⟨⟨vp,qs,rd.yV p1 (by decide) (by decide) (by decide) g5⟩,h.rk.fresh g5 h.ap.2.2.1 h.ap.2.2.2,bQ h.r g5 (fun e=>h.ap.1 (oi_ e)),⟨af,mf,cf,al,nl,cl,ja p1 _ _ _,dI n1 p1 (by decide) g5,dI n2 p1 (by decide) g5⟩,h.ap,h.ok.1,oa,h.ok.2.2⟩
theorem JS.fin (h:JS B g s k ps d a w gR gP W):∃c af mf cf al nl cl,dh W gP 83 [.bool c,.slice af mf cf,.slice al nl cl]/\
  (loadVar 83 (a_ gR 0)).run Tryz.prog (jO W gR (.bool c) (.slice af mf cf) (.slice al nl cl))=.ok (.agg #[.bool c,.slice af mf cf,.slice al nl cl]) (jO W gR (.bool c) (.slice af mf cf) (.slice al nl cl))/\
  Pm (jO W gR (.bool c) (.slice af mf cf) (.slice al nl cl)) (.agg #[.bool c,.slice af mf cf,.slice al nl cl]) a/\Rk B w (jO W gR (.bool c) (.slice af mf cf) (.slice al nl cl))/\∃vp qs,Rd B g s k ps d vp qs (jO W gR (.bool c) (.slice af mf cf) (.slice al nl cl)):=by
 obtain⟨vp,qs,rd⟩:=h.rd;obtain⟨af,mf,cf,al,nl,cl,p1,p2,p3⟩:=h.p;obtain⟨_,_,_,_,_,_,hv,ld,Co,Ct,Cq⟩:=Jk h.rk rd h.r h.ap.2.1 h.ap.2.2.2 ⟨af,mf,cf,al,nl,cl,rfl,p2,p3⟩;cases hv
 exact⟨_,_,_,_,_,_,_,p1,ld,Co,Ct,vp,qs,Cq⟩
theorem JS.yes {nt:aH} {nf:aG} {i:Nat} {re:aM} {D:Bool} {d0:Bool} {ps0:List Pu.aJ} (h:JS B g s k (Pu.part re ps0).2 (d0 || D) (Pu.part re ps0).1 w gR gP W) (hP:Pu.P s nt i k re D):∃c af mf cf al nl cl,dh W gP 83 [.bool c,.slice af mf cf,.slice al nl cl]/\
  (loadVar 83 (a_ gR 0)).run Tryz.prog (jO W gR (.bool c) (.slice af mf cf) (.slice al nl cl))=.ok (.agg #[.bool c,.slice af mf cf,.slice al nl cl]) (jO W gR (.bool c) (.slice af mf cf) (.slice al nl cl))/\
  uj B g s i nt nf d0 ps0 w (.returned (.tuple #[.agg #[.bool c,.slice af mf cf,.slice al nl cl],.bool true])) (jO W gR (.bool c) (.slice af mf cf) (.slice al nl cl)):=by
 obtain⟨c,af,mf,cf,al,nl,cl,h1,h2,h3,h4,vp,qs,h5⟩:=h.fin;exact⟨c,af,mf,cf,al,nl,cl,h1,h2,.inl ⟨k,re,D,_,vp,qs,hP,rfl,h3,h4,h5⟩⟩
theorem JS.no {nt:aH} {nf:aG} {i:Nat} (d0:Bool) (ps0:List Pu.aJ) (h:JS B g s k ps d a w gR gP W) (hP:Pu.aI s nf i k) (h0:ps0.length<=ps.length):∃c af mf cf al nl cl,dh W gP 83 [.bool c,.slice af mf cf,.slice al nl cl]/\
  (loadVar 83 (a_ gR 0)).run Tryz.prog (jO W gR (.bool c) (.slice af mf cf) (.slice al nl cl))=.ok (.agg #[.bool c,.slice af mf cf,.slice al nl cl]) (jO W gR (.bool c) (.slice af mf cf) (.slice al nl cl))/\
  uj B g s i nt nf d0 ps0 w (.returned (.tuple #[.agg #[.bool c,.slice af mf cf,.slice al nl cl],.bool false])) (jO W gR (.bool c) (.slice af mf cf) (.slice al nl cl)):=by
 obtain⟨c,af,mf,cf,al,nl,cl,h1,h2,h3,h4,vp,qs,h5⟩:=h.fin;exact⟨c,af,mf,cf,al,nl,cl,h1,h2,.inr ⟨k,a,ps,d,_,vp,qs,hP,rfl,h3,h.ok.2.1,h.ok.1,⟨h0,h.ok.2.2⟩,h4,h5⟩⟩
theorem JS.first {i:Nat} {nt:aH} {nf:aG} {d0:Bool} {ps0:List Pu.aJ} {W0:W_} {e:Ending} (h:uj B g s i nt nf d0 ps0 W0 e W) (hok:iU ps0) (hl:ps0.length<=i) (ht:nt.lv=0) (hx:dh W0 gR 83 [.bool false,n_,n_]) (hr:w.heap.size<=gR) (K0:Rk B w W0) (BL:B<=w.heap.size) :
  ∃c af mf cf al nl cl ok,e=.returned (.tuple #[.agg #[.bool c,.slice af mf cf,.slice al nl cl],.bool ok])/\
   ((ok=true/\∃j re D,Pu.P s nt i j re D/\JS B g s j (Pu.part re ps0).2 (d0 || D) (Pu.part re ps0).1 w gR W.heap.size (W.alloc (c_ #[.bool c,.slice af mf cf,.slice al nl cl] 83)))\/
    (ok=false/\∃j ps' d' a,Pu.aI s nf i j/\ps0.length<=ps'.length/\JS B g s j ps' d' a w gR W.heap.size (W.alloc (c_ #[.bool c,.slice af mf cf,.slice al nl cl] 83)))):=by
 rcases h with ⟨j,re,D,v,vp,qs,hP,rfl,pm,rk,rd⟩ | ⟨j,a,ps',d',v,vp,qs,hF,rfl,pm,oa,ok,lk,rk,rd⟩
 .obtain⟨af,mf,cf,al,nl,cl,rfl,n1,n2⟩:=pm;have hb:=(Br_ W.heap.size W).alloc di (c_ #[.bool (Pu.part re ps0).1.empty,.slice af mf cf,.slice al nl cl] 83);have xr:=rk.fA hx (by decide) (by decide);have xl:=bO xr;have sz:=(K0.trans rk).lo.size;have Kr:=zN re ps0 hok;have yK:=gL re ps0;have lv:=hP.leaves;rw [ht] at lv;have sz2:=lt_ hr (ll_ xl);exact⟨_,af,mf,cf,al,nl,cl,true,rfl,.inl ⟨rfl,j,re,D,hP,⟨vp,qs,rd.below hb⟩,(K0.trans rk).trans (.below rd.lt hb),bN xr hb xl,⟨af,mf,cf,al,nl,cl,hn_ _ _,n1.below hb,n2.below hb⟩,⟨by omega,hr,sz2,BL⟩,Kr.2,Kr.1,by omega⟩⟩
 .obtain⟨af,mf,cf,al,nl,cl,rfl,n1,n2⟩:=pm;have hb:=(Br_ W.heap.size W).alloc di (c_ #[.bool a.empty,.slice af mf cf,.slice al nl cl] 83);have xr:=rk.fA hx (by decide) (by decide);have xl:=bO xr;have sz2:=lt_ hr (ll_ xl);exact⟨_,af,mf,cf,al,nl,cl,false,rfl,.inr ⟨rfl,j,ps',d',a,hF,lk.1,⟨vp,qs,rd.below hb⟩,(K0.trans rk).trans (.below rd.lt hb),bN xr hb xl,⟨af,mf,cf,al,nl,cl,hn_ _ _,n1.below hb,n2.below hb⟩,⟨by omega,hr,sz2,BL⟩,ok,oa,lk.2⟩⟩
end
theorem IC (s:Y_) (i:Nat) (AT:Dp 161 .atom .atom s i) (hi:i<=s.size) (hs:s.size<=400):Dp 154 .pc .pc s i:=by
 intro B g ps d vp qs w h hok hl;have BL:=h.lt;have XR:Hid (dh (w.alloc (c_ #[.bool false,n_,n_] 83)) w.heap.size 83 [.bool false,n_,n_]):=hn_ _ _;have H0:=bK (h.below ((Br_ w.heap.size w).alloc di (c_ #[.bool false,n_,n_] 83)));have K0:Hid (Rk B w (w.alloc (c_ #[.bool false,n_,n_] 83))):=.alloc BL _;have OK:=bK hok;have AT:=bK AT;clear h hok;go_enter Tryz.func154,Tryz.ntmps154
 go_wp2_with fail
 generalize w.alloc (c_ #[.bool false,n_,n_] 83)=W0 at *;refine (AT.o B g ps d vp qs W0 H0.o OK.o hl).mono ?_
 intro e w1 hq
 obtain⟨c,af,mf,cf,al,nl,cl,ok,rfl,hjs⟩:=JS.first hq OK.o hl rfl XR.o di K0.o BL
 have HJ:=bK hjs;clear hjs hq H0 K0 XR
 go_wp2_with fail
 generalize w1.alloc (c_ #[.bool c,.slice af mf cf,.slice al nl cl] 83)=W2 at *;generalize w1.heap.size=gP at *;have gRl:w.heap.size<=w.heap.size:=di;generalize w.heap.size=gR at *
 cases ok with
 | false=>
  rcases HJ.o with ⟨e,_⟩ | ⟨_,j,ps',d',a,hF,hpl,js⟩
  .cases e
  .clear HJ;obtain⟨c2,Dx,AX,DV,Ci,EM,Ad,p1,ld,FIN⟩:=js.no (nt:=.pc) d ps (.pc hF) hpl;have JX:=bK js.r;have FIN:=bK FIN;clear js;have z0:=bP 0 JX.o rfl;have z1:=bP 1 JX.o rfl;have z2:=bP 2 JX.o rfl;have f0:=bL JX.o 0;have f1:=bL JX.o 1;have f2:=bL JX.o 2;have p2:=bP 0 p1 rfl;have p3:=bP 1 p1 rfl;have p4:=bP 2 p1 rfl;clear p1
   go_loopg [6] 0 (fun _ _ wx=>wx=W2)
   case atStart=>rfl
   case round=>subst hrel;go_wp2;exact br_ (by simp [results,Tryz.results154,asAddr,Result.andThen,ld]) rfl FIN.o
 | true=>
  rcases HJ.o with ⟨_,j,re,D,hP,js⟩ | ⟨e,_⟩
  .have jl:j<=s.size:=hP.le hi 2 (.inl ⟨trivial,.inl rfl⟩);clear HJ;have I0:Hid (∃k re' D',k<=s.size/\s.size-j=s.size-k/\JS B g s k (Pu.part re' ps).2 (d || D') (Pu.part re' ps).1 w gR gP W2/\∀k' b D2,Pu.P s (.OE re' D') k k' b D2->Pu.P s .pc i k' b D2):=⟨j,re,D,jl,rfl,js,fun k' b D2 h2=>.pc hP h2⟩;clear hP js
   go_loopg [6] (s.size-j) (fun gk _ wx=>∃k re' D',k<=s.size/\gk=s.size-k/\JS B g s k (Pu.part re' ps).2 (d || D') (Pu.part re' ps).1 w gR gP wx/\∀k' b D2,Pu.P s (.OE re' D') k k' b D2->Pu.P s .pc i k' b D2)
   case atStart=>exact I0.o
   case round=>
    clear I0;obtain⟨k,re',D',kl,rfl,js,hstep⟩:=hrel;obtain⟨OG,qs1,rd⟩:=js.rd;have PK:=bK (lJ g k s OG (d || D') wr rd.rb);have J1:=bK js;have ST:=bK hstep;clear js rd hstep
    go_wp2_with fail
    refine PK.o.mono ?_
    clear PK;rintro e w2 ⟨rfl,hb2⟩;have J2:=bK (J1.o.below hb2);clear hb2 J1;by_cases hst:Pu.dG s k=42\/Pu.dG s k=43\/Pu.dG s k=63
    .have klt:k<s.size:=Pu.fB (s:=s) (i:=k) (by rcases hst with h | h | h <;> rw [h] <;> decide)
     have hre:Hid (∃yL,Pu.part yL ps=Pu.repeated (Pu.part re' ps).1 (Pu.dG s k) (Pu.part re' ps).2/\∀k' b D2,Pu.P s (.OE yL D') (k+1) k' b D2->Pu.P s .pc i k' b D2):=by
      rcases hst with h | h | h
      .exact⟨.star re',by rw [h];rfl,fun k' b D2 h2=>ST.o _ _ _ (.star h h2)⟩
      .exact⟨.plus re',by rw [h];rfl,fun k' b D2 h2=>ST.o _ _ _ (.plus h h2)⟩
      .exact⟨.opt re',by rw [h];rfl,fun k' b D2 h2=>ST.o _ _ _ (.opt h h2)⟩
     obtain⟨vp2,qs2,Ku⟩:=J2.o.rd;have c1:=bP 1 Ku.rb rfl;have f1:=bL Ku.rb 1;have wi:=kg k;have hg3:=gs_ w2 g 1 (I_ ((k:Int)+1));have rd3:Rd B g s (k+1) (Pu.part re' ps).2 (d || D') vp2 qs2 (w2.setCell (a_ g 1) (I_ ((k:Int)+1))):=Ku.eP hg3 (Ku.rb.at (k+1));have J3:=bK (J2.o.on (Ku.rk hg3) rd3 ⟨J2.o.ok.1,J2.o.ok.2.1,Nat.le_succ_of_le J2.o.ok.2.2⟩);have R3:=bK rd3;clear Ku rd3 hg3 J2 ST;generalize Pu.dG s k=b at *;obtain⟨Dx,AX,DV,Ci,EM,Ad,p1,m1,m2⟩:=J3.o.p;have p2:=bP 0 p1 rfl;have p3:=bP 1 p1 rfl;have p4:=bP 2 p1 rfl;have PM:=bK (show Pm _ _ (Pu.part re' ps).1 from ⟨Dx,AX,DV,Ci,EM,Ad,rfl,m1,m2⟩);have yK:=J3.o.ok.2.2;clear p1 m1 m2;have ROK:=bK (sZ b J3.o.ok.2.1 J3.o.ok.1);have RLN:=bK (jA (Pu.part re' ps).1 b (Pu.part re' ps).2);rcases hst with h | h | h
     all_goals
      subst h;obtain⟨yL,ag6,Mk⟩:=hre.o;have HE:=bK ag6;have HS:=bK Mk;clear hre ag6 Mk
      go_wp2_with fail
      clear c1 f1;generalize w2.setCell (a_ g 1) (I_ ((k:Int)+1))=W3 at *;refine (JN B g (k+1) s _ _ vp2 qs2 _ _ _ W3 R3.o J3.o.ok.1 (by omega) PM.o J3.o.ok.2.1 (by decide)).mono ?_
      rintro e w4 ⟨v4,vp4,qs4,rfl,pm4,rk4,rd4⟩;rw [<-HE.o] at pm4 rd4;have rok:=ROK.o;have zS:=RLN.o;rw [<-HE.o] at rok zS;have J4:=bK (J3.o.on rk4 rd4 ⟨rok.2,by rw [zS];exact J3.o.ok.2.1,by rw [zS];exact yK⟩);obtain⟨af4,mf4,cf4,al4,nl4,cl4,rfl,m1,m2⟩:=pm4;have J5:=bK (J4.o.put (a':=(Pu.part yL ps).1) ⟨af4,mf4,cf4,al4,nl4,cl4,rfl,m1,m2⟩ (by rw [zS];exact rok.1));clear m1 m2 rk4 rd4 rok zS p2 p3 p4 J3;obtain⟨_,_,_,_,_,_,q1,_,_⟩:=J4.o.p;have p2:=bP 0 q1 rfl;have p3:=bP 1 q1 rfl;have p4:=bP 2 q1 rfl;have f2:=bL q1 0;have f3:=bL q1 1;have f4:=bL q1 2;clear q1 J4;go_wp2;go_roundg (s.size-(k+1))
      case measure=>omega
      case rel=>exact⟨k+1,yL,D',klt,rfl,J5.o,HS.o⟩
    .have hst':=hst;have FP:=bK (ST.o k re' D' (.EZ (fun e=>hst (.inl e)) (fun e=>hst (.inr (.inl e))) (fun e=>hst (.inr (.inr e)))));generalize Pu.dG s k=b at *;have n1:(b != 42)=true:=by simp;omega
     have n2:(b != 43)=true:=by simp;omega
     have n3:(b != 63)=true:=by simp;omega
     obtain⟨c2,Dx,AX,DV,Ci,EM,Ad,p1,ld,FIN⟩:=JS.yes (nf:=.pc) J2.o FP.o;have JX:=bK J2.o.r;have FIN:=bK FIN;have z0:=bP 0 JX.o rfl;have z1:=bP 1 JX.o rfl;have z2:=bP 2 JX.o rfl;have f0:=bL JX.o 0;have f1:=bL JX.o 1;have f2:=bL JX.o 2;have p2:=bP 0 p1 rfl;have p3:=bP 1 p1 rfl;have p4:=bP 2 p1 rfl;clear p1;go_wp2;exact br_ (by simp [results,Tryz.results154,asAddr,Result.andThen,ld]) rfl FIN.o
  .cases e
structure BrI (B g:Nat) (s:Y_) (i:Nat) (d:Bool) (ps:List Pu.aJ) (w:W_) (gR gP:Nat) (gk:Nat) (ok:Bool) (W:W_):Prop where
 yes:ok=true->∃k re D,k<=s.size/\gk=s.size-k+1/\i<=k/\JS B g s k (Pu.part re ps).2 (d || D) (Pu.part re ps).1 w gR gP W/\(∀k' b D2,Pu.P s (.zn re D) k k' b D2->Pu.P s .br i k' b D2)/\(∀k',Pu.aI s .zn k k'->Pu.aI s .br i k')
 no:ok=false->∃k ps' d' a,Pu.aI s .br i k/\ps.length<=ps'.length/\gk=0/\JS B g s k ps' d' a w gR gP W
section
variable {B g:Nat} {s:Y_} {k j:Nat} {ps ps':List Pu.aJ} {d d':Bool} {a a':aK} {w:W_} {gR gP gQ:Nat} {W W' W'':W_}
theorem JS.box (h:JS B g s k ps d a w gR gP W) {c:Bool} {af al:Option Addr} {mf cf nl cl:Nat} (pm:Pm W (.agg #[.bool c,.slice af mf cf,.slice al nl cl]) a') :
  JS B g s k ps d a w gR gP (W.alloc (c_ #[.bool c,.slice af mf cf,.slice al nl cl] 83))/\dh (W.alloc (c_ #[.bool c,.slice af mf cf,.slice al nl cl] 83)) W.heap.size 83 [.bool c,.slice af mf cf,.slice al nl cl]/\Pm (W.alloc (c_ #[.bool c,.slice af mf cf,.slice al nl cl] 83)) (.agg #[.bool c,.slice af mf cf,.slice al nl cl]) a':=by
 have hb:=(Br_ W.heap.size W).alloc di (c_ #[.bool c,.slice af mf cf,.slice al nl cl] 83);exact⟨h.below hb,hn_ _ _,pm.below hb⟩
end
theorem DU (s:Y_) (i:Nat) (PC:∀k,i<=k->k<=s.size->Dp 154 .pc .pc s k) (hi:i<=s.size) (hs:s.size<=400):Dp 150 .br .br s i:=by
 intro B g ps d vp qs w h hok hl;have BL:=h.lt;have XR:Hid (dh (w.alloc (c_ #[.bool false,n_,n_] 83)) w.heap.size 83 [.bool false,n_,n_]):=hn_ _ _;have H0:=bK (h.below ((Br_ w.heap.size w).alloc di (c_ #[.bool false,n_,n_] 83)));have K0:Hid (Rk B w (w.alloc (c_ #[.bool false,n_,n_] 83))):=.alloc BL _;have OK:=bK hok;have PC:=bK PC;clear h hok;go_enter Tryz.func150,Tryz.ntmps150
 go_wp2_with fail
 generalize w.alloc (c_ #[.bool false,n_,n_] 83)=W0 at *;refine (PC.o i di hi B g ps d vp qs W0 H0.o OK.o hl).mono ?_
 intro e w1 hq
 obtain⟨c,af,mf,cf,al,nl,cl,ok,rfl,hjs⟩:=JS.first hq OK.o hl rfl XR.o di K0.o BL
 have HJ:Hid (∃gk,BrI B g s i d ps w w.heap.size w1.heap.size gk ok (w1.alloc (c_ #[.bool c,.slice af mf cf,.slice al nl cl] 83))):=by
  rcases hjs with ⟨rfl,j,re,D,hP,js⟩ | ⟨rfl,j,ps',d',a,hF,hpl,js⟩
  .exact⟨_,fun _=>⟨j,re,D,hP.le hi 2 (.inl ⟨trivial,.inl rfl⟩),rfl,hP.leaves.2,js,fun k' b D2 h2=>.br hP h2,fun k' h2=>.br2 hP h2⟩,fun e=>by cases e⟩
  .exact⟨0,fun e=>(by cases e),fun _=>⟨j,ps',d',a,.br1 hF,hpl,rfl,js⟩⟩
 clear hjs hq H0 K0 XR
 go_wp2_with fail
 generalize w1.alloc (c_ #[.bool c,.slice af mf cf,.slice al nl cl] 83)=W2 at *;generalize w1.heap.size=gP at *;generalize w.heap.size=gR at *;obtain⟨gk0,hbi⟩:=HJ.o;clear HJ
 go_loopg [5,6,7] gk0 (fun gk okv _ _ wx=>∃okb,okv=.bool okb/\BrI B g s i d ps w gR gP gk okb wx)
 case atStart=>exact⟨ok,rfl,hbi⟩
 case round=>
  clear hbi;obtain⟨okb,rfl,hI⟩:=hrel
  cases okb with
  | false=>obtain⟨k,ps',d',a,hF,hpl,Km,js⟩:=hI.no rfl;clear hI;obtain⟨c2,Dx,AX,DV,Ci,EM,Ad,p1,ld,FIN⟩:=js.no (nt:=.br) d ps hF hpl;have JX:=bK js.r;have FIN:=bK FIN;clear js hF Km;have z0:=bP 0 JX.o rfl;have z1:=bP 1 JX.o rfl;have z2:=bP 2 JX.o rfl;have f0:=bL JX.o 0;have f1:=bL JX.o 1;have f2:=bL JX.o 2;have p2:=bP 0 p1 rfl;have p3:=bP 1 p1 rfl;have p4:=bP 2 p1 rfl;clear p1;go_wp2;exact br_ (by simp [results,Tryz.results150,asAddr,Result.andThen,ld]) rfl FIN.o
  | true=>
   obtain⟨k,re,D,kl,rfl,ik,js,hst,hsf⟩:=hI.yes rfl;clear hI;obtain⟨OG,qs1,rd⟩:=js.rd;have PK:=bK (lJ g k s OG (d || D) wr rd.rb);have J1:=bK js;have ST:=bK hst;have SF:=bK hsf;clear js rd hst hsf
   go_wp2_with fail
   refine PK.o.mono ?_
   clear PK;rintro e w2 ⟨rfl,hb2⟩;have J2:=bK (J1.o.below hb2);clear hb2 J1
   go_wp2_with fail
   refine (wI (Pu.dG s k) w2).mono ?_
   rintro e w3 ⟨rfl,hb3⟩;have J3:=bK (J2.o.below hb3);clear hb3 J2;by_cases hbeg:fJ (Pu.dG s k)
   .rw [dt_ hbeg];obtain⟨Rl,Xf,rd3⟩:=J3.o.rd;have fw:=bK (PC.o k ik kl B g _ _ Rl Xf w3 rd3 J3.o.ok.1 J3.o.ok.2.2);clear rd3
    go_wp2_with fail
    refine fw.o.mono ?_
    clear fw;rintro e w4 (⟨j,yL,D2,v,vp4,qs4,hP,rfl,pm,rk,rd⟩ | ⟨j,a2,ps2,d2,v,vp4,qs4,hF,rfl,pm,oa,Xe,lk,rk,rd⟩)
    focus
     have jl:j<=s.size:=hP.le kl 2 (.inl ⟨trivial,.inl rfl⟩);have lv:=hP.leaves;simp only [aH.lv] at lv;have jk:k<j:=by have:=aM.uX yL;omega
     have Kr:=zN yL _ J3.o.ok.1;have yK:=gL yL (Pu.part re ps).2;have hlk:=J3.o.ok.2.2;have Nk:=J3.o.ok.2.1.mono (show (Pu.part re ps).2.length<=(Pu.part yL (Pu.part re ps).2).2.length by omega);have J4:=J3.o.on rk rd ⟨Kr.2,Nk,by omega⟩;obtain⟨Dx,AX,DV,Ci,EM,Ad,rfl,n1,n2⟩:=pm;obtain⟨J5,XQ,PMQ⟩:=J4.box (a':=(Pu.part yL (Pu.part re ps).2).1) ⟨Dx,AX,DV,Ci,EM,Ad,rfl,n1,n2⟩;have JJ:=rd.below ((Br_ w4.heap.size w4).alloc di (c_ #[.bool (Pu.part yL (Pu.part re ps).2).1.empty,.slice Dx AX DV,.slice Ci EM Ad] 83))
    rotate_left
    focus
     have hlk:=J3.o.ok.2.2;have yK:=gL re ps;have Nk:=J3.o.ok.2.1.mono lk.1;have J4:=J3.o.on rk rd ⟨Xe,Nk,lk.2⟩;obtain⟨Dx,AX,DV,Ci,EM,Ad,rfl,n1,n2⟩:=pm;obtain⟨J5,XQ,PMQ⟩:=J4.box (a':=a2) ⟨Dx,AX,DV,Ci,EM,Ad,rfl,n1,n2⟩;have JJ:=rd.below ((Br_ w4.heap.size w4).alloc di (c_ #[.bool a2.empty,.slice Dx AX DV,.slice Ci EM Ad] 83))
    rotate_left
    all_goals
     have J5:=bK J5;have R5:=bK JJ;have PMQ:=bK PMQ;have q2:=bP 0 XQ rfl;have q3:=bP 1 XQ rfl;have q4:=bP 2 XQ rfl;obtain⟨af3,mf3,cf3,al3,nl3,cl3,p1,m1,m2⟩:=J5.o.p;have p2:=bP 0 p1 rfl;have p3:=bP 1 p1 rfl;have p4:=bP 2 p1 rfl;have PM:=bK (show Pm _ _ (Pu.part re ps).1 from ⟨af3,mf3,cf3,al3,nl3,cl3,rfl,m1,m2⟩);have OA:=bK Nk
    focus
     have OK2:=bK Kr;have HP:=bK hP;have Uk:=bK (AA Nk Kr.1 Kr.2);clear J3 J4 rd rk n1 n2 JJ XQ p1 m1 m2 Nk Kr hP
     go_wp2_with fail
     generalize w4.alloc (c_ #[.bool (Pu.part yL (Pu.part re ps).2).1.empty,.slice Dx AX DV,.slice Ci EM Ad] 83)=W5 at *
    rotate_left
    focus
     have OK2:=bK (And.intro oa Xe);have FF:Hid (Pu.aI s .br i j):=SF.o _ (.ags hbeg hF);have Uk:=bK (AA Nk oa Xe);have jl:j<=s.size:=hF.le kl 2 (.inl rfl);clear J3 J4 rd rk n1 n2 JJ XQ p1 m1 m2 Nk oa Xe hF ST SF hbeg
     go_wp2_with fail
     generalize w4.alloc (c_ #[.bool a2.empty,.slice Dx AX DV,.slice Ci EM Ad] 83)=W5 at *
    rotate_left
    all_goals
     refine (PD B g j s _ _ vp4 qs4 _ _ _ _ W5 R5.o OK2.o.2 (by omega) PM.o PMQ.o OA.o OK2.o.1).mono ?_
     clear p2 p3 p4 q2 q3 q4;rintro e w6 ⟨v6,vp6,qs6,rfl,pm6,rk6,rd6⟩
    focus have zS:(wW (Pu.part re ps).1 (Pu.part yL (Pu.part re ps).2).1 (Pu.part yL (Pu.part re ps).2).2).2.length=(Pu.part yL (Pu.part re ps).2).2.length:=nA _ _ _
    rotate_left
    focus have zS:(wW (Pu.part re ps).1 a2 ps2).2.length=ps2.length:=nA _ _ _
    rotate_left
    all_goals
     have J6:=bK (J5.o.on rk6 rd6 ⟨Uk.o.2,by rw [zS];exact OA.o,by rw [zS];omega⟩);obtain⟨af6,mf6,cf6,al6,nl6,cl6,rfl,m1,m2⟩:=pm6
    focus
     have J7:=bK (J6.o.put (a':=(Pu.part (.cat re yL) ps).1) ⟨af6,mf6,cf6,al6,nl6,cl6,rfl,m1,m2⟩ (by rw [zS];exact Uk.o.1));have DD:Hid (((d || D) || D2)=(d || (D || D2))):=Bool.or_assoc _ _ _;have ST2:Hid (∀k' b D3,Pu.P s (.zn (.cat re yL) (D || D2)) j k' b D3->Pu.P s .br i k' b D3):=fun k' b D3 h2=>ST.o _ _ _ (.zn hbeg HP.o h2)
     have SF2:Hid (∀k',Pu.aI s .zn j k'->Pu.aI s .br i k'):=fun k' h2=>SF.o _ (.agt hbeg HP.o h2)
     clear m1 m2 rk6 rd6 zS J5 ST SF HP hbeg
    rotate_left
    focus
     have J7:=bK (J6.o.put (a':=(wW (Pu.part re ps).1 a2 ps2).1) ⟨af6,mf6,cf6,al6,nl6,cl6,rfl,m1,m2⟩ (by rw [zS];exact Uk.o.1));have PL:Hid (ps.length<=(wW (Pu.part re ps).1 a2 ps2).2.length):=by show _<=_;rw [zS];omega
     clear m1 m2 rk6 rd6 zS J5
    rotate_left
    all_goals
     obtain⟨_,_,_,_,_,_,q1,_,_⟩:=J6.o.p;have p2:=bP 0 q1 rfl;have p3:=bP 1 q1 rfl;have p4:=bP 2 q1 rfl;have f2:=bL q1 0;have f3:=bL q1 1;have f4:=bL q1 2;clear q1 J6;go_wp2
    .go_roundg (s.size-j+1)
     case measure=>omega
     case rel=>exact⟨true,rfl,fun _=>⟨j,.cat re yL,D || D2,jl,rfl,by omega,by rw [<-DD.o];exact J7.o,ST2.o,SF2.o⟩,fun e=>by cases e⟩
    .go_roundg 0
     case measure=>omega
     case rel=>exact⟨false,rfl,fun e=>(by cases e),fun _=>⟨j,_,_,_,FF.o,PL.o,rfl,J7.o⟩⟩
   .rw [dn_ hbeg];have FP:=ST.o k re D (.Jf hbeg);obtain⟨c2,Dx,AX,DV,Ci,EM,Ad,p1,ld,FIN⟩:=JS.yes (nf:=.br) J3.o FP;have JX:=bK J3.o.r;have FIN:=bK FIN;clear FP hbeg;have z0:=bP 0 JX.o rfl;have z1:=bP 1 JX.o rfl;have z2:=bP 2 JX.o rfl;have f0:=bL JX.o 0;have f1:=bL JX.o 1;have f2:=bL JX.o 2;have p2:=bP 0 p1 rfl;have p3:=bP 1 p1 rfl;have p4:=bP 2 p1 rfl;clear p1;go_wp2;exact br_ (by simp [results,Tryz.results150,asAddr,Result.andThen,ld]) rfl FIN.o
structure PaI (B g:Nat) (s:Y_) (i:Nat) (d:Bool) (ps:List Pu.aJ) (w:W_) (gR gP:Nat) (gk:Nat) (ok:Bool) (W:W_):Prop where
 yes:ok=true->∃k re D,k<=s.size/\gk=s.size-k+1/\i<=k/\JS B g s k (Pu.part re ps).2 (d || D) (Pu.part re ps).1 w gR gP W/\(∀k' b D2,Pu.P s (.yJ re D) k k' b D2->Pu.P s .pa i k' b D2)/\(∀k',Pu.aI s .yJ k k'->Pu.aI s .pa i k')
 no:ok=false->∃k ps' d' a,Pu.aI s .pa i k/\ps.length<=ps'.length/\gk=0/\JS B g s k ps' d' a w gR gP W
theorem BZ (s:Y_) (i:Nat) (PC:∀k,i<=k->k<=s.size->Dp 150 .br .br s k) (hi:i<=s.size) (hs:s.size<=400):Dp 140 .pa .pa s i:=by
 intro B g ps d vp qs w h hok hl;have BL:=h.lt;have XR:Hid (dh (w.alloc (c_ #[.bool false,n_,n_] 83)) w.heap.size 83 [.bool false,n_,n_]):=hn_ _ _;have H0:=bK (h.below ((Br_ w.heap.size w).alloc di (c_ #[.bool false,n_,n_] 83)));have K0:Hid (Rk B w (w.alloc (c_ #[.bool false,n_,n_] 83))):=.alloc BL _;have OK:=bK hok;have PC:=bK PC;clear h hok;go_enter Tryz.func140,Tryz.ntmps140
 go_wp2_with fail
 generalize w.alloc (c_ #[.bool false,n_,n_] 83)=W0 at *;refine (PC.o i di hi B g ps d vp qs W0 H0.o OK.o hl).mono ?_
 intro e w1 hq
 obtain⟨c,af,mf,cf,al,nl,cl,ok,rfl,hjs⟩:=JS.first hq OK.o hl rfl XR.o di K0.o BL
 have HJ:Hid (∃gk,PaI B g s i d ps w w.heap.size w1.heap.size gk ok (w1.alloc (c_ #[.bool c,.slice af mf cf,.slice al nl cl] 83))):=by
  rcases hjs with ⟨rfl,j,re,D,hP,js⟩ | ⟨rfl,j,ps',d',a,hF,hpl,js⟩
  .exact⟨_,fun _=>⟨j,re,D,hP.le hi 2 (.inl ⟨trivial,.inl rfl⟩),rfl,hP.leaves.2,js,fun k' b D2 h2=>.pa hP h2,fun k' h2=>.pa2 hP h2⟩,fun e=>by cases e⟩
  .exact⟨0,fun e=>(by cases e),fun _=>⟨j,ps',d',a,.pa1 hF,hpl,rfl,js⟩⟩
 clear hjs hq H0 K0 XR
 go_wp2_with fail
 generalize w1.alloc (c_ #[.bool c,.slice af mf cf,.slice al nl cl] 83)=W2 at *;generalize w1.heap.size=gP at *;generalize w.heap.size=gR at *;obtain⟨gk0,hbi⟩:=HJ.o;clear HJ
 go_loopg [5,6,7] gk0 (fun gk okv _ _ wx=>∃okb,okv=.bool okb/\PaI B g s i d ps w gR gP gk okb wx)
 case atStart=>exact⟨ok,rfl,hbi⟩
 case round=>
  clear hbi;obtain⟨okb,rfl,hI⟩:=hrel
  cases okb with
  | false=>obtain⟨k,ps',d',a,hF,hpl,Km,js⟩:=hI.no rfl;clear hI;obtain⟨c2,Dx,AX,DV,Ci,EM,Ad,p1,ld,FIN⟩:=js.no (nt:=.pa) d ps hF hpl;have JX:=bK js.r;have FIN:=bK FIN;clear js hF Km;have z0:=bP 0 JX.o rfl;have z1:=bP 1 JX.o rfl;have z2:=bP 2 JX.o rfl;have f0:=bL JX.o 0;have f1:=bL JX.o 1;have f2:=bL JX.o 2;have p2:=bP 0 p1 rfl;have p3:=bP 1 p1 rfl;have p4:=bP 2 p1 rfl;clear p1;go_wp2;exact br_ (by simp [results,Tryz.results140,asAddr,Result.andThen,ld]) rfl FIN.o
  | true=>
   obtain⟨k,re,D,kl,rfl,ik,js,hst,hsf⟩:=hI.yes rfl;clear hI;obtain⟨OG,qs1,rd⟩:=js.rd;have TK:=bK (oq g k s OG (d || D) 124 wr rd.rb (by omega));have R1:=bK rd;have J1:=bK js;have ST:=bK hst;have SF:=bK hsf;clear js rd hst hsf;by_cases hbeg:Pu.dG s k=124
   focus
    rw [if_pos hbeg,dt_ hbeg] at TK;have klt:k<s.size:=Pu.fB (s:=s) (i:=k) (by rw [hbeg];decide)
   rotate_left
   focus rw [if_neg hbeg,dn_ hbeg] at TK
   rotate_left
   all_goals
    go_wp2_with fail
    refine TK.o.mono ?_
    clear TK;rintro e w3 ⟨rfl,hg3,hr3⟩
   .have J3:=bK (J1.o.on (R1.o.rk hg3) (R1.o.eP hg3 hr3) ⟨J1.o.ok.1,J1.o.ok.2.1,Nat.le_succ_of_le J1.o.ok.2.2⟩);clear hg3 hr3 J1 R1;obtain⟨Rl,Xf,rd3⟩:=J3.o.rd;have fw:=bK (PC.o (k+1) (by omega) klt B g _ _ Rl Xf w3 rd3 J3.o.ok.1 J3.o.ok.2.2);clear rd3
    go_wp2_with fail
    refine fw.o.mono ?_
    clear fw;rintro e w4 (⟨j,yL,D2,v,vp4,qs4,hP,rfl,pm,rk,rd⟩ | ⟨j,a2,ps2,d2,v,vp4,qs4,hF,rfl,pm,oa,Xe,lk,rk,rd⟩)
    focus
     have jl:j<=s.size:=hP.le klt 2 (.inl ⟨trivial,.inl rfl⟩);have lv:=hP.leaves;simp only [aH.lv] at lv;have jk:k<j:=by have:=aM.uX yL;omega
     have Kr:=zN yL _ J3.o.ok.1;have yK:=gL yL (Pu.part re ps).2;have hlk:=J3.o.ok.2.2;have Nk:=J3.o.ok.2.1.mono (show (Pu.part re ps).2.length<=(Pu.part yL (Pu.part re ps).2).2.length by omega);have J4:=J3.o.on rk rd ⟨Kr.2,Nk,by omega⟩;obtain⟨Dx,AX,DV,Ci,EM,Ad,rfl,n1,n2⟩:=pm;obtain⟨J5,XQ,PMQ⟩:=J4.box (a':=(Pu.part yL (Pu.part re ps).2).1) ⟨Dx,AX,DV,Ci,EM,Ad,rfl,n1,n2⟩;have JJ:=rd.below ((Br_ w4.heap.size w4).alloc di (c_ #[.bool (Pu.part yL (Pu.part re ps).2).1.empty,.slice Dx AX DV,.slice Ci EM Ad] 83))
    rotate_left
    focus
     have hlk:=J3.o.ok.2.2;have yK:=gL re ps;have Nk:=J3.o.ok.2.1.mono lk.1;have J4:=J3.o.on rk rd ⟨Xe,Nk,lk.2⟩;obtain⟨Dx,AX,DV,Ci,EM,Ad,rfl,n1,n2⟩:=pm;obtain⟨J5,XQ,PMQ⟩:=J4.box (a':=a2) ⟨Dx,AX,DV,Ci,EM,Ad,rfl,n1,n2⟩;have JJ:=rd.below ((Br_ w4.heap.size w4).alloc di (c_ #[.bool a2.empty,.slice Dx AX DV,.slice Ci EM Ad] 83))
    rotate_left
    all_goals
     have J5:=bK J5;have R5:=bK JJ;have PMQ:=bK PMQ;have q2:=bP 0 XQ rfl;have q3:=bP 1 XQ rfl;have q4:=bP 2 XQ rfl;obtain⟨af3,mf3,cf3,al3,nl3,cl3,p1,m1,m2⟩:=J5.o.p;have p2:=bP 0 p1 rfl;have p3:=bP 1 p1 rfl;have p4:=bP 2 p1 rfl;have PM:=bK (show Pm _ _ (Pu.part re ps).1 from ⟨af3,mf3,cf3,al3,nl3,cl3,rfl,m1,m2⟩);have OA:=bK Nk
    focus
     have OK2:=bK Kr;have HP:=bK hP;have Uk:=bK (Pu.Ar Nk Kr.1);have rl:=JJ.lt;clear J3 J4 rd rk n1 n2 JJ XQ p1 m1 m2 Nk Kr hP
     go_wp2_with fail
     generalize w4.alloc (c_ #[.bool (Pu.part yL (Pu.part re ps).2).1.empty,.slice Dx AX DV,.slice Ci EM Ad] 83)=W5 at *;refine (Ec _ _ _ _ W5 PM.o PMQ.o (Pu.part yL (Pu.part re ps).2).2.length (by omega) OA.o OK2.o.1).mono ?_
    rotate_left
    focus
     have OK2:=bK (And.intro oa Xe);have FF:Hid (Pu.aI s .pa i j):=SF.o _ (.ahv hbeg hF);have Uk:=bK (Pu.Ar Nk oa);have jl:j<=s.size:=hF.le klt 2 (.inl rfl);have PL:Hid (ps.length<=ps2.length):=by show _<=_;omega
     clear J3 J4 rd rk n1 n2 JJ XQ p1 m1 m2 Nk oa Xe hF ST SF hbeg
     go_wp2_with fail
     generalize w4.alloc (c_ #[.bool a2.empty,.slice Dx AX DV,.slice Ci EM Ad] 83)=W5 at *;refine (Ec _ _ _ _ W5 PM.o PMQ.o ps2.length (by omega) OA.o OK2.o.1).mono ?_
    rotate_left
    all_goals
     clear p2 p3 p4 q2 q3 q4;rintro e w6 ⟨v6,rfl,pm6,hb6⟩;have J6:=bK (J5.o.below hb6);obtain⟨af6,mf6,cf6,al6,nl6,cl6,rfl,m1,m2⟩:=pm6
    focus
     have J7:=bK (J6.o.put (a':=(Pu.part (.alt re yL) ps).1) ⟨af6,mf6,cf6,al6,nl6,cl6,rfl,m1,m2⟩ Uk.o);have DD:Hid (((d || D) || D2)=(d || (D || D2))):=Bool.or_assoc _ _ _;have ST2:Hid (∀k' b D3,Pu.P s (.yJ (.alt re yL) (D || D2)) j k' b D3->Pu.P s .pa i k' b D3):=fun k' b D3 h2=>ST.o _ _ _ (.yJ hbeg HP.o h2)
     have SF2:Hid (∀k',Pu.aI s .yJ j k'->Pu.aI s .pa i k'):=fun k' h2=>SF.o _ (.ahw hbeg HP.o h2)
     clear m1 m2 hb6 J5 ST SF HP hbeg
    rotate_left
    focus
     have J7:=bK (J6.o.put (a':=Pu.either (Pu.part re ps).1 a2) ⟨af6,mf6,cf6,al6,nl6,cl6,rfl,m1,m2⟩ Uk.o);clear m1 m2 hb6 J5
    rotate_left
    all_goals
     obtain⟨_,_,_,_,_,_,q1,_,_⟩:=J6.o.p;have p2:=bP 0 q1 rfl;have p3:=bP 1 q1 rfl;have p4:=bP 2 q1 rfl;have f2:=bL q1 0;have f3:=bL q1 1;have f4:=bL q1 2;clear q1 J6;go_wp2
    .go_roundg (s.size-j+1)
     case measure=>omega
     case rel=>exact⟨true,rfl,fun _=>⟨j,.alt re yL,D || D2,jl,rfl,by omega,by rw [<-DD.o];exact J7.o,ST2.o,SF2.o⟩,fun e=>by cases e⟩
    .go_roundg 0
     case measure=>omega
     case rel=>exact⟨false,rfl,fun e=>(by cases e),fun _=>⟨j,_,_,_,FF.o,PL.o,rfl,J7.o⟩⟩
   .have J3:=bK (J1.o.on (R1.o.rk hg3) (R1.o.eP hg3 hr3) J1.o.ok);clear hg3 hr3 J1 R1;have FP:=ST.o k re D (.GJ hbeg);obtain⟨c2,Dx,AX,DV,Ci,EM,Ad,p1,ld,FIN⟩:=JS.yes (nf:=.pa) J3.o FP;have JX:=bK J3.o.r;have FIN:=bK FIN;clear FP hbeg;have z0:=bP 0 JX.o rfl;have z1:=bP 1 JX.o rfl;have z2:=bP 2 JX.o rfl;have f0:=bL JX.o 0;have f1:=bL JX.o 1;have f2:=bL JX.o 2;have p2:=bP 0 p1 rfl;have p3:=bP 1 p1 rfl;have p4:=bP 2 p1 rfl;clear p1;go_wp2;exact br_ (by simp [results,Tryz.results140,asAddr,Result.andThen,ld]) rfl FIN.o
theorem Ns (s:Y_) (hs:s.size<=400):∀i,i<=s.size->Dp 140 .pa .pa s i:=by
 have key:∀n i,i<=s.size->s.size-i<=n->Dp 140 .pa .pa s i:=by
  intro n
  induction n with
  | zero=>intro i hi hn;exact BZ s i (fun k hk kl=>DU s k (fun k' hk' kl'=>IC s k' (Lf s k' (fun hlt=>by omega) kl' hs) kl' hs) kl hs) hi hs
  | succ n ih=>intro i hi hn;exact BZ s i (fun k hk kl=>DU s k (fun k' hk' kl'=>IC s k' (Lf s k' (fun hlt=>ih (k'+1) hlt (by omega)) kl' hs) kl' hs) kl hs) hi hs
 exact fun i hi=>key _ i hi di
end Go.Proofs.YtmccnmgaoppogaaGreat
