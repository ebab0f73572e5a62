/-
 The walks: the document's pieces, branches, patterns. (weirref)
 The walks: the document's branches, patterns. (weirref)
-/
import Derived.Test.YtmccnmgaoppogaaGreatHE
namespace Go.Proofs.YtmccnmgaoppogaaGreat
set_option maxRecDepth 100000
set_option maxHeartbeats 8000000
open Go.RowKit
theorem wpList_build2 {P:Program} {w:World} {ops:Array Oper} {rest:List Oper} {o:Oper} {a:Act} {Q:Exit→Act→World→Prop} (hgd:o.guard=none) (t:TypeId) (x0 x1:Operand) (v0 v1:Value) (ho:o.op=.build t #[(0,x0),(1,x1)]) (h0:a.eval x0=v0) (h1:a.eval x1=v1) (cells:Array Value) (hf:P.built t [(0,v0),(1,v1)]=some cells)
  (h:wpList P ops Q rest (a.put o.dst (.agg cells)) w):wpList P ops Q (o::rest) a w:=
 wpList_plain hgd fun K hK=>by
  subst h0 h1;have hr:=run_build (P:=P) w t #[(0,a.eval x0),(1,a.eval x1)] cells hf;unfold Oper.wp execOp;simp only [ho,Sem.run_bind,List.map_toArray,List.map_cons,List.map_nil];rw [hr];exact hK _ _ h
theorem wpList_build3 {P:Program} {w:World} {ops:Array Oper} {rest:List Oper} {o:Oper} {a:Act} {Q:Exit→Act→World→Prop} (hgd:o.guard=none) (t:TypeId) (x0 x1 x2:Operand) (v0 v1 v2:Value) (ho:o.op=.build t #[(0,x0),(1,x1),(2,x2)]) (h0:a.eval x0=v0) (h1:a.eval x1=v1) (h2:a.eval x2=v2) (cells:Array Value) (hf:P.built t [(0,v0),(1,v1),(2,v2)]=some cells)
  (h:wpList P ops Q rest (a.put o.dst (.agg cells)) w):wpList P ops Q (o::rest) a w:=
 wpList_plain hgd fun K hK=>by
  subst h0 h1 h2;have hr:=run_build (P:=P) w t #[(0,a.eval x0),(1,a.eval x1),(2,a.eval x2)] cells hf;unfold Oper.wp execOp;simp only [ho,Sem.run_bind,List.map_toArray,List.map_cons,List.map_nil];rw [hr];exact hK _ _ h
structure DL (B g:Nat) (s:ByteArray) (k:Nat) (ns:List Pure.Nd) (a:Pure.Re) (al:Option Addr) (nl cl:Nat) (modes down:Int) (D:Bool) (w:World) (nv:Value) (W:World):Prop where
 dr:∃vn,Dr B g s k (ns++Pure.nodes a ns.length) vn (.slice al nl cl) modes (Pure.upd nl D down) W
 dk:Dk B w W
 n:nv=.int .i64 ((ns.length+a.size-1:Nat):Int)
 sz:ns.length+a.size≤2*k
theorem nodes_len (ns:List Pure.Nd) (a:Pure.Re):(ns++Pure.nodes a ns.length).length=ns.length+a.size:=by rw [List.length_append,Pure.nodes_length]
theorem node_un {ns:List Pure.Nd} {a:Pure.Re} (k:Nat):ns++Pure.nodes a ns.length++[⟨k,ns.length+a.size-1,0,Pure.noneB⟩]=ns++(Pure.nodes a ns.length++[⟨k,ns.length+a.size-1,0,Pure.noneB⟩]):=List.append_assoc _ _ _
theorem dpiece_any (s:ByteArray) (i:Nat) (AT:DOK 152 .atom s i) (hs:s.size≤400):DOK 146 .pc s i:=by
 intro j re D hP hF B g ns vn al nl cl modes down w h hl
 cases hP with
 | @pc _ j1 _ a _ D1 _ hA hR=>
 have szA:=hA.size
 simp only [Pure.Nt.sz,Pure.Nt.un] at szA
 have CALL:=hide (AT j1 a D1 hA trivial B g ns vn al nl cl modes down w h hl)
 have hj:j<s.size:=hF
 have HR:=hide hR
 have j1j:=hR.leaves.2
 clear hF h hA hR AT
 go_enter Tryz.func146,Tryz.ntmps146
 go_wp2_with fail
 refine CALL.out.mono ?_
 clear CALL
 rintro e w1 ⟨rfl,hk1,vn1,hd1⟩
 have L1:Hid (DL B g s j1 ns a al nl cl modes down D1 w (.int .i64 ((ns.length+a.size-1:Nat):Int)) w1):=⟨⟨vn1,hd1⟩,hk1,rfl,by omega⟩
 clear hk1 hd1
 go_wp2_with fail
 go_loopg [3,4] (s.size-j1) (fun gk nv _ wx=>∃k b D2,gk=s.size-k∧k≤j∧DL B g s k ns b al nl cl modes down D2 w nv wx∧Pure.P s (.pcR b D2) k j re D)
 case atStart=>exact⟨j1,a,D1,rfl,j1j,L1.out,HR.out⟩
 case round=>
  clear L1 HR;obtain⟨k,b,D2,rfl,kj,hL,hR⟩:=hrel;obtain⟨vn2,hd2⟩:=hL.dr;have hn:=hL.n;subst hn;have ks:k<s.size:=by omega
  have xk:=fun w=>idx_str s (k:Int) k rfl (by omega) w
  have pb:=Pure.pkb_bt ks;rw [←pb] at xk;have k0:=nz_ k;have k1:(k:Int)<(s.size:Int):=by omega
  have wk:=wr_ (k:Int) (by omega) (by omega);have c4:=bc_ 4 hd2.rb rfl;have c5:=bc_ 5 hd2.rb rfl;have H2:=hide hd2;have HL:=hide hL;have lsz:=hL.sz;clear hL hd2 pb;generalize hrn:((ns.length+b.size-1:Nat):Int)=rn at *;have HRN:=hide hrn;clear hrn
  cases hR with
  | pcR0 h1 h2 h3=>
   have e1:(Pure.pkb s j == 42)=false:=by simpa using h1
   have e2:(Pure.pkb s j == 43)=false:=by simpa using h2
   have e3:(Pure.pkb s j == 63)=false:=by simpa using h3
   clear h1 h2 h3;generalize Pure.pkb s j=pk at *
   go_wp2_with fail
   go_quiet (fail);have dn:=below_drewN (Below.refl wr.heap.size wr) nq;have D3:=hide (H2.out.below dn);have K3:Hid (Dk B w (wr.drewN nq)):=HL.out.dk.trans (.below H2.out.lt dn);clear dn H2 HL c4 c5 xk;generalize wr.drewN nq=W3 at *;go_wp2;go_ret;exact⟨by rw [HRN.out];rfl,K3.out,vn2,D3.out⟩
  | star h1 hR2=>
   rw [h1] at xk;have k2:=hR2.leaves.2;have HR2:=hide hR2;have SB:=hide (node_built2 4 rn)
   have ND:Hid ((.int .i64 4::.int .i64 rn::.int .i64 0::bitsL Pure.noneB)=ndC1 ⟨4,ns.length+b.size-1,0,Pure.noneB⟩):=by
    show _=_;unfold ndC1;simp only;rw [HRN.out];rfl
   rw [ND.out] at SB;clear h1 hR2 ND
   go_wp2_with fail
   go_quiet (fail);have dn:=below_drewN (Below.refl wr.heap.size wr) nq;have D3:=hide (H2.out.below dn);have K3:Hid (Dk B w (wr.drewN nq)):=HL.out.dk.trans (.below H2.out.lt dn);clear dn H2 HL c4 c5 xk;generalize wr.drewN nq=W3 at *;have c5:=bc_ 5 D3.out.rb rfl;have f5:=blk_frozen D3.out.rb 5;have hg4:=Lib.grownBy_setCell W3 g 5 (.int .i64 ((k:Int)+1));have D4:Hid (Dr B g s (k+1) (ns++Pure.nodes b ns.length) vn2 (.slice al nl cl) modes (Pure.upd nl D2 down) (W3.setCell ⟨g,5,none⟩ (.int .i64 ((k:Int)+1)))):=D3.out.moved hg4 (D3.out.rb.at (k+1));have K4:=hide (K3.out.trans (D3.out.dk hg4));clear hg4;go_upto_region 13 with (fail);clear c5 f5 D3 K3;generalize W3.setCell ⟨g,5,none⟩ (.int .i64 ((k:Int)+1))=W4 at *
   go_wp2_with (refine wpList_build2 rfl 161 (.tmp 33) (.tmp 34) (.int .i64 4) (.int .i64 rn) rfl rfl rfl _ SB.out ?_)
   refine (node_any B g (k+1) s _ vn2 (.slice al nl cl) modes _ ⟨4,ns.length+b.size-1,0,Pure.noneB⟩ W4 D4.out (by rw [nodes_len];omega)).mono ?_
   rintro e w5 ⟨rfl,hk5,vn5,hd5⟩;rw [nodes_len];rw [List.append_assoc] at hd5;have L5:Hid (DL B g s (k+1) ns (.star b) al nl cl modes down D2 w (.int .i64 ((ns.length+b.size:Nat):Int)) w5):=⟨⟨vn5,hd5⟩,K4.out.trans hk5,by show Value.int .i64 ((ns.length+b.size:Nat):Int)=.int .i64 ((ns.length+(b.size+1)-1:Nat):Int);rw [show ns.length+(b.size+1)-1=ns.length+b.size by omega],by show ns.length+(b.size+1)≤_;omega⟩;clear hk5 hd5 D4 K4 SB;generalize ((ns.length+b.size:Nat):Int)=rn2 at *;go_wp2;go_roundg (s.size-(k+1))
   case measure=>omega
   case rel=>exact⟨k+1,_,D2,rfl,by omega,L5.out,HR2.out⟩
  | plus h1 hR2=>
   rw [h1] at xk;have k2:=hR2.leaves.2;have HR2:=hide hR2;have SB:=hide (node_built2 5 rn)
   have ND:Hid ((.int .i64 5::.int .i64 rn::.int .i64 0::bitsL Pure.noneB)=ndC1 ⟨5,ns.length+b.size-1,0,Pure.noneB⟩):=by
    show _=_;unfold ndC1;simp only;rw [HRN.out];rfl
   rw [ND.out] at SB;clear h1 hR2 ND
   go_wp2_with fail
   go_quiet (fail);have dn:=below_drewN (Below.refl wr.heap.size wr) nq;have D3:=hide (H2.out.below dn);have K3:Hid (Dk B w (wr.drewN nq)):=HL.out.dk.trans (.below H2.out.lt dn);clear dn H2 HL c4 c5 xk;generalize wr.drewN nq=W3 at *;have c5:=bc_ 5 D3.out.rb rfl;have f5:=blk_frozen D3.out.rb 5;have hg4:=Lib.grownBy_setCell W3 g 5 (.int .i64 ((k:Int)+1));have D4:Hid (Dr B g s (k+1) (ns++Pure.nodes b ns.length) vn2 (.slice al nl cl) modes (Pure.upd nl D2 down) (W3.setCell ⟨g,5,none⟩ (.int .i64 ((k:Int)+1)))):=D3.out.moved hg4 (D3.out.rb.at (k+1));have K4:=hide (K3.out.trans (D3.out.dk hg4));clear hg4;go_upto_region 13 with (fail);clear c5 f5 D3 K3;generalize W3.setCell ⟨g,5,none⟩ (.int .i64 ((k:Int)+1))=W4 at *
   go_wp2_with (refine wpList_build2 rfl 161 (.tmp 33) (.tmp 34) (.int .i64 5) (.int .i64 rn) rfl rfl rfl _ SB.out ?_)
   refine (node_any B g (k+1) s _ vn2 (.slice al nl cl) modes _ ⟨5,ns.length+b.size-1,0,Pure.noneB⟩ W4 D4.out (by rw [nodes_len];omega)).mono ?_
   rintro e w5 ⟨rfl,hk5,vn5,hd5⟩;rw [nodes_len];rw [List.append_assoc] at hd5;have L5:Hid (DL B g s (k+1) ns (.plus b) al nl cl modes down D2 w (.int .i64 ((ns.length+b.size:Nat):Int)) w5):=⟨⟨vn5,hd5⟩,K4.out.trans hk5,by show Value.int .i64 ((ns.length+b.size:Nat):Int)=.int .i64 ((ns.length+(b.size+1)-1:Nat):Int);rw [show ns.length+(b.size+1)-1=ns.length+b.size by omega],by show ns.length+(b.size+1)≤_;omega⟩;clear hk5 hd5 D4 K4 SB;generalize ((ns.length+b.size:Nat):Int)=rn2 at *;go_wp2;go_roundg (s.size-(k+1))
   case measure=>omega
   case rel=>exact⟨k+1,_,D2,rfl,by omega,L5.out,HR2.out⟩
  | opt h1 hR2=>
   rw [h1] at xk;have k2:=hR2.leaves.2;have HR2:=hide hR2;have SB:=hide (node_built2 6 rn)
   have ND:Hid ((.int .i64 6::.int .i64 rn::.int .i64 0::bitsL Pure.noneB)=ndC1 ⟨6,ns.length+b.size-1,0,Pure.noneB⟩):=by
    show _=_;unfold ndC1;simp only;rw [HRN.out];rfl
   rw [ND.out] at SB;clear h1 hR2 ND
   go_wp2_with fail
   go_quiet (fail);have dn:=below_drewN (Below.refl wr.heap.size wr) nq;have D3:=hide (H2.out.below dn);have K3:Hid (Dk B w (wr.drewN nq)):=HL.out.dk.trans (.below H2.out.lt dn);clear dn H2 HL c4 c5 xk;generalize wr.drewN nq=W3 at *;have c5:=bc_ 5 D3.out.rb rfl;have f5:=blk_frozen D3.out.rb 5;have hg4:=Lib.grownBy_setCell W3 g 5 (.int .i64 ((k:Int)+1));have D4:Hid (Dr B g s (k+1) (ns++Pure.nodes b ns.length) vn2 (.slice al nl cl) modes (Pure.upd nl D2 down) (W3.setCell ⟨g,5,none⟩ (.int .i64 ((k:Int)+1)))):=D3.out.moved hg4 (D3.out.rb.at (k+1));have K4:=hide (K3.out.trans (D3.out.dk hg4));clear hg4;go_upto_region 13 with (fail);clear c5 f5 D3 K3;generalize W3.setCell ⟨g,5,none⟩ (.int .i64 ((k:Int)+1))=W4 at *
   go_wp2_with (refine wpList_build2 rfl 161 (.tmp 33) (.tmp 34) (.int .i64 6) (.int .i64 rn) rfl rfl rfl _ SB.out ?_)
   refine (node_any B g (k+1) s _ vn2 (.slice al nl cl) modes _ ⟨6,ns.length+b.size-1,0,Pure.noneB⟩ W4 D4.out (by rw [nodes_len];omega)).mono ?_
   rintro e w5 ⟨rfl,hk5,vn5,hd5⟩;rw [nodes_len];rw [List.append_assoc] at hd5;have L5:Hid (DL B g s (k+1) ns (.opt b) al nl cl modes down D2 w (.int .i64 ((ns.length+b.size:Nat):Int)) w5):=⟨⟨vn5,hd5⟩,K4.out.trans hk5,by show Value.int .i64 ((ns.length+b.size:Nat):Int)=.int .i64 ((ns.length+(b.size+1)-1:Nat):Int);rw [show ns.length+(b.size+1)-1=ns.length+b.size by omega],by show ns.length+(b.size+1)≤_;omega⟩;clear hk5 hd5 D4 K4 SB;generalize ((ns.length+b.size:Nat):Int)=rn2 at *;go_wp2;go_roundg (s.size-(k+1))
   case measure=>omega
   case rel=>exact⟨k+1,_,D2,rfl,by omega,L5.out,HR2.out⟩
namespace Pure
theorem foll_br {s:ByteArray} {a re:Re} {k j:Nat} {D D':Bool} (h:P s (.paR a D) k j re D') (hf:Foll s .pa j):Foll s .br k:=by
 cases h with
 | paR0 _=>
  rcases hf with h | h
  ·exact .inl h
  ·exact .inr (.inr h)
 | paR h1 _ _=>exact .inr (.inl h1)
theorem foll_lt {s:ByteArray} {k:Nat} (h:Foll s .br k):k<s.size:=pkb_lt (by rcases h with h | h | h <;> rw [h] <;> decide)
theorem foll_lt' {s:ByteArray} {k:Nat} (h:Foll s .pa k):k<s.size:=pkb_lt (by rcases h with h | h <;> rw [h] <;> decide)
end Pure
theorem nodes_two (ns:List Pure.Nd) (a b:Pure.Re) (k:Nat):(ns++Pure.nodes a ns.length)++Pure.nodes b (ns.length+a.size)++[⟨k,ns.length+a.size-1,ns.length+a.size+b.size-1,Pure.noneB⟩]=ns++(Pure.nodes a ns.length++Pure.nodes b (ns.length+a.size)++[⟨k,ns.length+a.size-1,ns.length+a.size+b.size-1,Pure.noneB⟩]):=by simp
theorem dbranch_any (s:ByteArray) (i:Nat) (PC:∀k,i≤k→k<s.size→DOK 146 .pc s k) (hs:s.size≤400):DOK 121 .br s i:=by
 intro j re D hP hF B g ns vn al nl cl modes down w h hl
 have js:j<s.size:=Pure.foll_lt hF
 cases hP with
 | @br _ j1 _ a _ D1 _ hA hR=>
 have szA:=hA.size
 simp only [Pure.Nt.sz,Pure.Nt.un] at szA
 have j1j:=hR.leaves.2
 have ij1:=hA.leaves.2
 have CALL:=hide (PC i lr_ (by omega) j1 a D1 hA (show j1<s.size by omega) B g ns vn al nl cl modes down w h hl)
 have HF:=hide hF
 have HR:=hide hR
 have PC:=hide PC
 clear hF h hA hR
 go_enter Tryz.func121,Tryz.ntmps121
 go_wp2_with fail
 refine CALL.out.mono ?_
 clear CALL
 rintro e w1 ⟨rfl,hk1,vn1,hd1⟩
 have L1:Hid (DL B g s j1 ns a al nl cl modes down D1 w (.int .i64 ((ns.length+a.size-1:Nat):Int)) w1):=⟨⟨vn1,hd1⟩,hk1,rfl,by omega⟩
 clear hk1 hd1
 go_wp2_with fail
 go_loopg [3,4,5] (s.size-j1) (fun gk nv _ _ wx=>∃k b D2,gk=s.size-k∧k≤j∧i≤k∧DL B g s k ns b al nl cl modes down D2 w nv wx∧Pure.P s (.brR b D2) k j re D)
 case atStart=>exact⟨j1,a,D1,rfl,j1j,ij1,L1.out,HR.out⟩
 case round=>
  clear L1 HR;obtain⟨k,b,D2,rfl,kj,ik,hL,hR⟩:=hrel;obtain⟨vn2,hd2⟩:=hL.dr;have hn:=hL.n;subst hn;have ks:k<s.size:=by omega
  have xk:=fun w=>idx_str s (k:Int) k rfl (by omega) w
  have pb:=Pure.pkb_bt ks;rw [←pb] at xk;have k0:=nz_ k;have k1:(k:Int)<(s.size:Int):=by omega
  have c4:=bc_ 4 hd2.rb rfl;have c5:=bc_ 5 hd2.rb rfl;have H2:=hide hd2;have HL:=hide hL;have lsz:=hL.sz;clear hL hd2 pb;generalize hrn:((ns.length+b.size-1:Nat):Int)=rn at *;have HRN:=hide hrn;clear hrn
  cases hR with
  | brR0 _=>
   have hf:=HF.out;generalize hpk:Pure.pkb s j=pk at xk;have hf:pk=32∨pk=124∨pk=41:=by rw [←hpk];exact hf
   clear hpk HF PC;rcases hf with rfl | rfl | rfl
   all_goals
    go_wp2_with fail
    go_quiet (fail);have dn:=below_drewN (Below.refl wr.heap.size wr) nq;have D3:=hide (H2.out.below dn);have K3:Hid (Dk B w (wr.drewN nq)):=HL.out.dk.trans (.below H2.out.lt dn);clear dn H2 HL c4 c5 xk;generalize wr.drewN nq=W3 at *;go_wp2;go_ret;exact⟨by rw [HRN.out];rfl,K3.out,vn2,D3.out⟩
  | @brR _ j2 _ _ b2 _ _ Db _ hbeg hp2 hR2=>
   have j2j:=hR2.leaves.2;have szB:=hp2.size;have kj2:=hp2.leaves;have lp:=Pure.Re.leaves_pos b2;simp only [Pure.Nt.sz,Pure.Nt.un,Pure.Nt.lv] at szB kj2;have e1:(Pure.pkb s k == 32)=false:=by unfold Pure.BegAtom at hbeg;simp;omega
   have e2:(Pure.pkb s k == 124)=false:=by unfold Pure.BegAtom at hbeg;simp;omega
   have e3:(Pure.pkb s k == 41)=false:=by unfold Pure.BegAtom at hbeg;simp;omega
   have HR2:=hide hR2;have CALL:=hide (fun w1 vn (h1:Dr B g s k (ns++Pure.nodes b ns.length) vn (.slice al nl cl) modes (Pure.upd nl D2 down) w1)=>PC.out k ik ks j2 b2 Db hp2 (show j2<s.size by omega) B g _ vn al nl cl modes _ w1 h1 (by rw [nodes_len];exact lsz));clear hbeg hp2 hR2;generalize Pure.pkb s k=pk at *
   go_wp2_with fail
   go_quiet (fail);have dn:=below_drewN (Below.refl wr.heap.size wr) nq;have D3:=hide (H2.out.below dn);have K3:Hid (Dk B w (wr.drewN nq)):=HL.out.dk.trans (.below H2.out.lt dn);clear dn H2 HL c4 c5 xk;generalize wr.drewN nq=W3 at *
   go_wp2_with fail
   refine (CALL.out W3 vn2 D3.out).mono ?_
   clear CALL;rintro e w4 ⟨rfl,hk4,vn4,hd4⟩;rw [nodes_len] at hd4;rw [nodes_len];have D4:=hide hd4;have K4:=hide (K3.out.trans hk4);clear hk4 hd4 D3 K3;generalize hrb:((ns.length+b.size+b2.size-1:Nat):Int)=rb at *;have SB:=hide (node_built3 2 rn rb)
   have ND:Hid ((.int .i64 2::.int .i64 rn::.int .i64 rb::bitsL Pure.noneB)=ndC1 ⟨2,ns.length+b.size-1,ns.length+b.size+b2.size-1,Pure.noneB⟩):=by
    show _=_;unfold ndC1;simp only;rw [HRN.out,hrb];rfl
   rw [ND.out] at SB;clear ND hrb
   go_wp2_with (refine wpList_build3 rfl 161 (.const (.int .i64 2)) (.tmp 31) (.tmp 32) (.int .i64 2) (.int .i64 rn) (.int .i64 rb) rfl rfl rfl rfl _ SB.out ?_)
   refine (node_any B g j2 s _ vn4 (.slice al nl cl) modes _ ⟨2,ns.length+b.size-1,ns.length+b.size+b2.size-1,Pure.noneB⟩ w4 D4.out (by rw [List.length_append,nodes_len,Pure.nodes_length];omega)).mono ?_
   rintro e w5 ⟨rfl,hk5,vn5,hd5⟩;rw [nodes_two,Pure.upd_or (by omega)] at hd5;rw [List.length_append,nodes_len,Pure.nodes_length];have L5:Hid (DL B g s j2 ns (.cat b b2) al nl cl modes down (D2 || Db) w (.int .i64 ((ns.length+b.size+b2.size:Nat):Int)) w5):=⟨⟨vn5,hd5⟩,K4.out.trans hk5,by show Value.int .i64 ((ns.length+b.size+b2.size:Nat):Int)=.int .i64 ((ns.length+(b.size+b2.size+1)-1:Nat):Int);rw [show ns.length+(b.size+b2.size+1)-1=ns.length+b.size+b2.size by omega],by show ns.length+(b.size+b2.size+1)≤_;omega⟩;clear hk5 hd5 D4 K4 SB;generalize ((ns.length+b.size+b2.size:Nat):Int)=rn2 at *;go_wp2;go_roundg (s.size-j2)
   case measure=>omega
   case rel=>exact⟨j2,_,_,rfl,by omega,by omega,L5.out,HR2.out⟩
theorem dpattern_any (s:ByteArray) (i:Nat) (PC:∀k,i≤k→k<s.size→DOK 121 .br s k) (hs:s.size≤400):DOK 95 .pa s i:=by
 intro j re D hP hF B g ns vn al nl cl modes down w h hl
 have js:j<s.size:=Pure.foll_lt' hF
 cases hP with
 | @pa _ j1 _ a _ D1 _ hA hR=>
 have szA:=hA.size
 simp only [Pure.Nt.sz,Pure.Nt.un] at szA
 have j1j:=hR.leaves.2
 have ij1:=hA.leaves.2
 have CALL:=hide (PC i lr_ (by omega) j1 a D1 hA (Pure.foll_br hR hF) B g ns vn al nl cl modes down w h hl)
 have HF:=hide hF
 have HR:=hide hR
 have PC:=hide PC
 clear hF h hA hR
 go_enter Tryz.func95,Tryz.ntmps95
 go_wp2_with fail
 refine CALL.out.mono ?_
 clear CALL
 rintro e w1 ⟨rfl,hk1,vn1,hd1⟩
 have L1:Hid (DL B g s j1 ns a al nl cl modes down D1 w (.int .i64 ((ns.length+a.size-1:Nat):Int)) w1):=⟨⟨vn1,hd1⟩,hk1,rfl,by omega⟩
 clear hk1 hd1
 go_wp2_with fail
 go_loopg [3,4] (s.size-j1) (fun gk nv _ wx=>∃k b D2,gk=s.size-k∧k≤j∧i≤k∧DL B g s k ns b al nl cl modes down D2 w nv wx∧Pure.P s (.paR b D2) k j re D)
 case atStart=>exact⟨j1,a,D1,rfl,j1j,ij1,L1.out,HR.out⟩
 case round=>
  clear L1 HR;obtain⟨k,b,D2,rfl,kj,ik,hL,hR⟩:=hrel;obtain⟨vn2,hd2⟩:=hL.dr;have hn:=hL.n;subst hn;have ks:k<s.size:=by omega
  have xk:=fun w=>idx_str s (k:Int) k rfl (by omega) w
  have pb:=Pure.pkb_bt ks;rw [←pb] at xk;have k0:=nz_ k;have k1:(k:Int)<(s.size:Int):=by omega
  have wk:=wr_ (k:Int) (by omega) (by omega);have c4:=bc_ 4 hd2.rb rfl;have c5:=bc_ 5 hd2.rb rfl;have H2:=hide hd2;have HL:=hide hL;have lsz:=hL.sz;clear hL hd2 pb;generalize hrn:((ns.length+b.size-1:Nat):Int)=rn at *;have HRN:=hide hrn;clear hrn
  cases hR with
  | paR0 h124=>
   have e1:(Pure.pkb s j == 124)=false:=by simpa using h124
   generalize Pure.pkb s j=pk at *;clear HF PC h124
   go_wp2_with fail
   go_quiet (fail);have dn:=below_drewN (Below.refl wr.heap.size wr) nq;have D3:=hide (H2.out.below dn);have K3:Hid (Dk B w (wr.drewN nq)):=HL.out.dk.trans (.below H2.out.lt dn);clear dn H2 HL c4 c5 xk;generalize wr.drewN nq=W3 at *;go_wp2;go_ret;exact⟨by rw [HRN.out];rfl,K3.out,vn2,D3.out⟩
  | @paR _ j2 _ _ b2 _ _ Db _ h124 hp2 hR2=>
   rw [h124] at xk;have j2j:=hR2.leaves.2;have szB:=hp2.size;have kj2:=hp2.leaves;simp only [Pure.Nt.sz,Pure.Nt.un,Pure.Nt.lv] at szB kj2;have FB:=Pure.foll_br hR2 HF.out;have k1s:k+1<s.size:=by have:=Pure.foll_lt FB;have:=Pure.Re.leaves_pos b2;omega
   have HR2:=hide hR2;have CALL:=hide (fun w1 vn (h1:Dr B g s (k+1) (ns++Pure.nodes b ns.length) vn (.slice al nl cl) modes (Pure.upd nl D2 down) w1)=>PC.out (k+1) (by omega) k1s j2 b2 Db hp2 FB B g _ vn al nl cl modes _ w1 h1 (by rw [nodes_len];omega));clear h124 hp2 hR2 FB
   go_wp2_with fail
   go_quiet (fail);have dn:=below_drewN (Below.refl wr.heap.size wr) nq;have D3:=hide (H2.out.below dn);have K3:Hid (Dk B w (wr.drewN nq)):=HL.out.dk.trans (.below H2.out.lt dn);clear dn H2 HL c4 c5 xk;generalize wr.drewN nq=W3 at *;have c5:=bc_ 5 D3.out.rb rfl;have f5:=blk_frozen D3.out.rb 5;have hg4:=Lib.grownBy_setCell W3 g 5 (.int .i64 ((k:Int)+1));have D3':Hid (Dr B g s (k+1) (ns++Pure.nodes b ns.length) vn2 (.slice al nl cl) modes (Pure.upd nl D2 down) (W3.setCell ⟨g,5,none⟩ (.int .i64 ((k:Int)+1)))):=D3.out.moved hg4 (D3.out.rb.at (k+1));have K3':=hide (K3.out.trans (D3.out.dk hg4));clear hg4
   go_wp2_with fail
   clear c5 f5 D3 K3;generalize W3.setCell ⟨g,5,none⟩ (.int .i64 ((k:Int)+1))=W4 at *;refine (CALL.out W4 vn2 D3'.out).mono ?_
   clear CALL;rintro e w4 ⟨rfl,hk4,vn4,hd4⟩;rw [nodes_len] at hd4;rw [nodes_len];have D4:=hide hd4;have K4:=hide (K3'.out.trans hk4);clear hk4 hd4 D3' K3';generalize hrb:((ns.length+b.size+b2.size-1:Nat):Int)=rb at *;have SB:=hide (node_built3 3 rn rb)
   have ND:Hid ((.int .i64 3::.int .i64 rn::.int .i64 rb::bitsL Pure.noneB)=ndC1 ⟨3,ns.length+b.size-1,ns.length+b.size+b2.size-1,Pure.noneB⟩):=by
    show _=_;unfold ndC1;simp only;rw [HRN.out,hrb];rfl
   rw [ND.out] at SB;clear ND hrb
   go_wp2_with (refine wpList_build3 rfl 161 (.const (.int .i64 3)) (.tmp 27) (.tmp 28) (.int .i64 3) (.int .i64 rn) (.int .i64 rb) rfl rfl rfl rfl _ SB.out ?_)
   refine (node_any B g j2 s _ vn4 (.slice al nl cl) modes _ ⟨3,ns.length+b.size-1,ns.length+b.size+b2.size-1,Pure.noneB⟩ w4 D4.out (by rw [List.length_append,nodes_len,Pure.nodes_length];omega)).mono ?_
   rintro e w5 ⟨rfl,hk5,vn5,hd5⟩;rw [nodes_two,Pure.upd_or (by omega)] at hd5;rw [List.length_append,nodes_len,Pure.nodes_length];have L5:Hid (DL B g s j2 ns (.alt b b2) al nl cl modes down (D2 || Db) w (.int .i64 ((ns.length+b.size+b2.size:Nat):Int)) w5):=⟨⟨vn5,hd5⟩,K4.out.trans hk5,by show Value.int .i64 ((ns.length+b.size+b2.size:Nat):Int)=.int .i64 ((ns.length+(b.size+b2.size+1)-1:Nat):Int);rw [show ns.length+(b.size+b2.size+1)-1=ns.length+b.size+b2.size by omega],by show ns.length+(b.size+b2.size+1)≤_;omega⟩;clear hk5 hd5 D4 K4 SB;generalize ((ns.length+b.size+b2.size:Nat):Int)=rn2 at *;go_wp2;go_roundg (s.size-j2)
   case measure=>omega
   case rel=>exact⟨j2,_,_,rfl,by omega,by omega,L5.out,HR2.out⟩
theorem dpattern_all (s:ByteArray) (hs:s.size≤400):∀i,DOK 95 .pa s i:=by
 have key:∀n i,s.size-i≤n→DOK 95 .pa s i:=by
  intro n
  induction n with
  | zero=>
   intro i hn;exact dpattern_any s i (fun k hk kl=>dbranch_any s k (fun k' hk' kl'=>dpiece_any s k' (done_any s k' (fun hlt=>by omega) hs) hs) hs) hs
  | succ n ih=>
   intro i hn;exact dpattern_any s i (fun k hk kl=>dbranch_any s k (fun k' hk' kl'=>dpiece_any s k' (done_any s k' (fun hlt=>ih (k'+1) (by omega)) hs) hs) hs) hs
 exact fun i=>key _ i lr_
end Go.Proofs.YtmccnmgaoppogaaGreat
