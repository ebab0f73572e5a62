/-
 The walks: no Next too many. (weirlaw)
-/
import Derived.Test.YtmccnmgaoppogaaV17
import Derived.Test.YtmccnmgaoppogaaU2
import Derived.Test.YtmccnmgaoppogaaBA
namespace Go.Proofs.Ytmccnmgaoppogaa
set_option maxRecDepth 100000
set_option maxHeartbeats 8000000
open Go.RowKit
namespace Pu
theorem nexts_take {c:List Ins} {i:Nat} (h:i<c.length):nexts (c.take (i+1))=nexts (c.take i)+(if (c.getD i i0).op=2 then 1 else 0):=by
 have hg:=List.getElem?_eq_getElem h
 have e:c.getD i i0=c[i]:=by rw [List.getD_eq_getElem?_getD,hg];rfl
 rw [List.take_add_one,hg,nexts_app,e]
 congr 1
 unfold nexts
 simp
theorem nexts_le (c:List Ins):nexts c≤c.length:=List.countP_le_length
end Pu
theorem nexts_any (B:Nat) (ve vr vc:Value) (code:List Pu.Ins) (w:World) (ho:w.ownsRow B 103 4 vc code.length (insCells code)) (hn:code.length≤100000) :
  Calls Try.prog 38 #[.agg #[ve,vr,vc]] w (RetVal (.int .i64 (Pu.nexts code)) w):=by
 obtain⟨ac,cc,rfl,_,_⟩:=own_fm ho
 have M0:Hid (Blk (w.alloc (.cells #[ve,vr,.slice ac code.length cc] 26)) w.heap.size 26 [ve,vr,.slice ac code.length cc]):=heap_alloc_new _ _
 have B0:Hid (Below w.heap.size w (w.alloc (.cells #[ve,vr,.slice ac code.length cc] 26))):=bn_ _
 have HO:=hide ho
 clear ho
 go_enter Try.func38,Try.ntmps38
 go_wp2_with fail
 go_loopg [3,4] code.length (fun gk nv kv wx=>∃(k:Nat),k≤code.length∧gk=code.length-k∧nv=.int .i64 ((Pu.nexts (code.take k):Nat):Int)∧kv=.int .i64 k∧Below w.heap.size w wx∧Blk wx w.heap.size 26 [ve,vr,.slice ac code.length cc])
 case atStart=>exact⟨0,Nat.zero_le _,rfl,rfl,rfl,B0.out,M0.out⟩
 case round=>
  clear B0 M0;obtain⟨k,kl,rfl,rfl,rfl,hb,hm⟩:=hrel;have c2:=bc_ 2 hm rfl;have HB:=hide hb;have HM:=hide hm;by_cases hk:k<code.length
  ·have d1:=dl_ (k:Int) (code.length:Int) (by omega)
   have wk:=wr_ (k:Int) (by omega) (by omega);have k0:=nz_ k;have k1:(k:Int)<(code.length:Int):=by omega
   have o2:=own_below HO.out hb lr_;obtain⟨gc,cc',ec,_,_⟩:=own_some o2 (by omega);cases ec;have q0:=own_cell o2 (insCells_get code k hk).1;rw [Nat.mul_comm] at q0;have NT:=hide (Pu.nexts_take hk);have NL:Pu.nexts (code.take k)≤100000:=by have:=Pu.nexts_le (code.take k);rw [List.length_take] at this;omega
   have wc:IntKind.i64.wrap (((Pu.nexts (code.take k):Nat):Int)+1)=((Pu.nexts (code.take k):Nat):Int)+1:=wrap_in _ (by omega) (by omega);clear hb hm o2;generalize (code.getD k Pu.i0).op=op at *;by_cases e:op=2
   ·subst e
    have NX:Hid (((Pu.nexts (code.take (k+1)):Nat):Int)=((Pu.nexts (code.take k):Nat):Int)+1):=by
     show _=_;rw [NT.out,if_pos rfl];omega
    clear NT;go_wp2;go_roundg (code.length-(k+1))
    case measure=>omega
    case rel=>exact⟨k+1,by omega,rfl,by rw [NX.out],by go_num,HB.out,HM.out⟩
   ·have e1:(op == 2)=false:=by simpa using e
    have NX:Hid (Pu.nexts (code.take (k+1))=Pu.nexts (code.take k)):=by
     show _=_;rw [NT.out,if_neg e,Nat.add_zero]
    clear NT;go_wp2;go_roundg (code.length-(k+1))
    case measure=>omega
    case rel=>exact⟨k+1,by omega,rfl,by rw [NX.out],by go_num,HB.out,HM.out⟩
  ·have d1:=df_ (k:Int) (code.length:Int) (by omega)
   have ek:code.take k=code:=List.take_of_length_le (by omega);rw [ek];clear hb hm ek;go_wp2;go_ret;exact⟨rfl,HB.out⟩
theorem mach_h (s:ByteArray):MachH s:=fun B g i0 ls ns dls vn al cl modes down h1 h2 h3 mode w h4 h5 h6=>
 (machine_all B g i0 s ls ns dls vn al cl modes down h1 h2 h3 mode w h4 h5 h6).mono (fun e w' h=>by
  obtain⟨vS,vT,vR,gss,ts,rs,tc,rfl,hb,hB,hT,hR,_⟩:=h;obtain⟨aT,cT,eT,_,_⟩:=own_fm hT;obtain⟨aR,cR,eR,_,_⟩:=own_fm hR
  exact⟨vS,vT,vR,gss,rfl,⟨aT,_,cT,eT⟩,⟨aR,_,cR,eR⟩,hb,hB⟩)
theorem fewLaw_any (s:ByteArray) (w:World):Calls Try.prog 10 #[.string s] w (RetVal (.bool true) w):=by
 go_enter Try.func10,Try.ntmps10
 go_wp2_with fail
 refine (compile_any s w).mono ?_
 rintro e w2 ⟨en,str,rfl,hb2,⟨⟨no,hpc⟩,h1,h2⟩⟩
 have CALL:=hide (dRead_any s en no hpc w2 (mach_h s))
 have B2:=hide hb2
 have H1:=hide h1
 have H2:=hide h2
 have PC:=hide hpc
 clear hb2 hpc h1 h2
 go_wp2_with fail
 refine CALL.out.mono ?_
 clear CALL
 rintro e w3 ⟨p,rfl,hb3,hd⟩
 have B3:=hide (bel0 B2.out hb3)
 have HD:=hide hd
 clear hb3 hd B2
 by_cases he:en=0
 ·subst he
  obtain⟨all0,g,vn,al,cl,hL,rfl,dl⟩:=HD.out rfl;obtain⟨all,hL',hD',hE',h42,hs⟩:=H2.out rfl;have ea:=hL.det hL';subst ea
  have h300:s.size≤300:=by
   rcases PC.out with ⟨_,h,_⟩ | ⟨h,_⟩ | ⟨h,_⟩
   ·cases h
   ·exact h
   ·exact h
  have rp:=Pu.comp_right hL h42;have fm:=img_form rp;rw [←hs] at fm
  have ssz:str.size≤9223372036854775807:=by
   rw [hs];have h1:=Pu.img_len (Pu.compP all);have h2:(strOfNums (Pu.img (Pu.compP all))).size=(Pu.img (Pu.compP all)).length:=by simp [strOfNums,ByteArray.size]
   have h3:=rp.2.2.1.1.2;have h4:=rp.1.1.2;have h5:=rp.2.1.1.2;omega
  have cl5:(Pu.compP all).code.length≤100000:=by have:=rp.2.2.1.1.2;omega
  have CALL:=hide (refUnpack_any str w3 ssz);have FM:=hide fm;have RP:=hide rp;have LST:=hide (fun W (hb:Below w3.heap.size w3 W)=>least_any s all g vn al cl _ W (dl.below hb) hL h300 h42);clear hs fm rp hL hL' hD' hE' h42 ssz dl HD H1 H2 PC
  go_wp2_with fail
  refine CALL.out.mono ?_
  clear CALL;rintro e w4 h4;rcases h4 with ⟨hF,hR,ve,vr,vc,rfl,hb4,o1,o2,o3⟩ | ⟨hN,rfl,hb4⟩
  ·rw [FM.out.2] at o1 o2 o3
   have n3:nC str=(Pu.compP all).code.length:=by
    have h1:(prgOf str).code.length=nC str:=codeOf_len _ _ _;rw [FM.out.2] at h1;exact h1.symm
   rw [n3] at o3;obtain⟨ae,ce,rfl,_,_⟩:=own_fm o1;obtain⟨ar,cr,rfl,_,_⟩:=own_fm o2;obtain⟨ac,cc,rfl,_,_⟩:=own_fm o3;have hb5:Below w4.heap.size w4 (w4.alloc (.cells #[.slice ae (nE str) ce,.slice ar (nR str) cr,.slice ac (Pu.compP all).code.length cc] 26)):=bn_ _;have NX:=hide (nexts_any _ (.slice ae (nE str) ce) (.slice ar (nR str) cr) (.slice ac (Pu.compP all).code.length cc) (Pu.compP all).code _ (own_below o3 hb5 lr_) cl5);have B5:=hide (bel0 (bel0 B3.out hb4) hb5);have BL:=hide (bel0 hb4 hb5);clear o1 o2 o3 hb4 hb5 hF hR n3 FM RP B3
   go_wp2_with fail
   refine NX.out.mono ?_
   clear NX;rintro e w6 ⟨rfl,hb6⟩;have B6:=hide (bel0 B5.out hb6);have L6:=hide (bel0 BL.out hb6);clear hb6 B5 BL
   go_wp2_with fail
   refine (num_any 0 w6).mono ?_
   rintro e w7 ⟨rfl,hb7⟩;have B7:=hide (bel0 B6.out hb7);have L7:=hide (LST.out w7 (bel0 L6.out hb7));clear hb7 B6 L6 LST
   go_wp2_with fail
   refine L7.out.mono ?_
   clear L7;rintro e w8 ⟨L,rfl,hb8,hle⟩;have B8:=hide (bel0 B7.out hb8);generalize Pu.nexts (Pu.compP all).code=nx1 at *;have dl:decide ((nx1:Int)≤(L:Int))=true:=decide_eq_true (by omega);have dl2:decide (nx1≤L)=true:=decide_eq_true hle;clear hb8 B7;go_wp2;go_ret;exact⟨rfl,B8.out⟩
  ·exact absurd ⟨FM.out.1,by rw [FM.out.2];exact RP.out⟩ hN
 ·have es:=H1.out he
  subst es;have e1:(en != 0)=true:=by simpa using he
  clear HD H1 H2 PC
  go_wp2_with fail
  refine (num_any en w3).mono ?_
  rintro e w4 ⟨rfl,hb4⟩;have B4:=hide (bel0 B3.out hb4);have e3:(en == en)=true:=by simp
  clear hb4 B3;go_wp2;go_ret;exact⟨rfl,B4.out⟩
end Go.Proofs.Ytmccnmgaoppogaa
