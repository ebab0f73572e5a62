/-
 The walks: what Compile makes is held against the document. (weirlaw)
-/
import Derived.Test.YtmccnmgaoppogaaGreatJC
import Derived.Test.YtmccnmgaoppogaaGreatHJ
import Derived.Test.YtmccnmgaoppogaaGreatU2
import Derived.Test.YtmccnmgaoppogaaGreatBA
namespace Go.Proofs.YtmccnmgaoppogaaGreat
set_option maxRecDepth 100000
set_option maxHeartbeats 8000000
open Go.RowKit
theorem Dl.line {w W:World} {s:ByteArray} {all:List Pure.Ln} {g:Nat} {vn:Value} {al:Option Addr} {cl:Nat} (h:Dl w s all g vn al cl W) (hb:∀x∈all,Pure.LnB x) {k:Nat} {x:Pure.Ln} (hk:all[k]?=some x) :
  ∃gv,al=some ⟨gv,0,none⟩∧W.cell? ⟨gv,k*5+1,none⟩=some (.int .i64 x.emit)∧W.cell? ⟨gv,k*5+2,none⟩=some (.int .i64 x.act)∧W.cell? ⟨gv,k*5+3,none⟩=some (.int .i64 x.md):=by
 have ad:=Pure.allD_ad all hb
 have hd:=ad.get k x hk
 have hl:=(List.getElem?_eq_some_iff.1 hd).1
 obtain⟨gv,cap,e,_,_⟩:=own_some h.ln (by omega)
 cases e
 exact⟨gv,rfl,own_cell h.ln (dlC_get hd (j:=1) (by omega)),own_cell h.ln (dlC_get hd (j:=2) (by omega)),own_cell h.ln (dlC_get hd (j:=3) (by omega))⟩
structure Mm (w0 w:World) (s:ByteArray) (all:List Pure.Ln) (g gp:Nat) (vn:Value) (al:Option Addr) (cl:Nat) (ve vr vc:Value) (W:World):Prop where
 be:Below w.heap.size w W
 dl:Dl w0 s all g vn al cl W
 b:Blk W gp 43 [ve,vr,vc]
 r:W.ownsRow w.heap.size 59 3 vr all.length (ruleCells (Pure.rulesP (Pure.allLn all).1))
theorem Mm.below {w0 w:World} {s:ByteArray} {all:List Pure.Ln} {g gp:Nat} {vn:Value} {al:Option Addr} {cl:Nat} {ve vr vc:Value} {W W':World} (h:Mm w0 w s all g gp vn al cl ve vr vc W) (hb:Below W.heap.size W W'):Mm w0 w s all g gp vn al cl ve vr vc W':=
 ⟨bel0 h.be hb,h.dl.below hb,blk_below h.b hb (blk_lt h.b),own_below h.r hb lr_⟩
theorem rulesP_rg (all:List Pure.Ln) {k:Nat} {x:Pure.Ln} (hk:all[k]?=some x):(Pure.rulesP (Pure.allLn all).1).getD k Pure.r0=⟨x.emit,x.act,x.md⟩:=by
 obtain⟨pt,h1,_⟩:=Pure.allLn_get all hk
 unfold Pure.rulesP
 rw [List.getD_eq_getElem?_getD,List.getElem?_map,h1]
 rfl
theorem made_any (s str:ByteArray) (all:List Pure.Ln) (g:Nat) (vn:Value) (al:Option Addr) (cl:Nat) (w0 w:World) (hD:Dl w0 s all g vn al cl w) (hL:Pure.Lns s 0 [] all) (h42:∀j,j<Pure.nM all→(Pure.setsOf all j).length≤42) (hs:str=strOfNums (Pure.img (Pure.compP all))) :
  Calls Tryz.prog 14 #[.string str,.pointer (some ⟨g,0,none⟩)] w (RetVal (.bool true) w):=by
 have rp:=Pure.comp_right hL h42
 have fm:=img_form rp
 rw [←hs] at fm
 have bds:=hL.bds
 have nm:=Pure.nM_bd bds.1
 have ad:=Pure.allD_ad all bds.1
 have EL:(Pure.compP all).ents.length=Pure.nM all:=by
  have:=(Pure.comp_laid h42).ents;rw [Pure.kks_len] at this;exact this
 have RLn:(Pure.compP all).rules.length=all.length:=(Pure.rules_ok hL).2
 have MD:(Pure.allD all).modes=((Pure.nM all:Nat):Int):=by
  rcases ad.modes with ⟨e,_⟩ | e
  ·rw [e] at bds;have:=bds.2.1;simp at this
  ·rw [e];exact nm.1
 have LD:(Pure.allD all).ls.length=all.length:=ad.n
 have ssz:str.size≤9223372036854775807:=by
  rw [hs];have h1:=Pure.img_len (Pure.compP all);have h2:(strOfNums (Pure.img (Pure.compP all))).size=(Pure.img (Pure.compP all)).length:=by simp [strOfNums,ByteArray.size]
  have h3:=rp.2.2.1.1.2;have h4:=rp.1.1.2;have h5:=rp.2.1.1.2;omega
 have CALL:=hide (refUnpack_any str w ssz)
 have FM:=hide fm
 have RP:=hide rp
 have HD:=hide hD
 have HL:=hide bds.1
 have al16:all.length≤16:=bds.2.2
 clear hs fm rp hD hL h42 bds nm ad ssz
 go_enter Tryz.func14,Tryz.ntmps14
 go_wp2_with fail
 refine CALL.out.mono ?_
 clear CALL
 rintro e w2 h2
 rcases h2 with ⟨hF,hR,ve,vr,vc,rfl,hb2,o1,o2,o3⟩ | ⟨hN,rfl,hb2⟩
 ·rw [FM.out.2] at o1 o2 o3
  have n1:nE str=Pure.nM all:=by
   have h1:(prgOf str).ents.length=nE str:=entsOf_len _ _ _;rw [FM.out.2,EL] at h1;exact h1.symm
  have n2:nR str=all.length:=by
   have h1:(prgOf str).rules.length=nR str:=rulesOf_len _ _ _;rw [FM.out.2,RLn] at h1;exact h1.symm
  rw [n1] at o1;rw [n2] at o2;obtain⟨ae,ce,rfl,_,_⟩:=own_fm o1;obtain⟨ar,cr,rfl,_,_⟩:=own_fm o2;obtain⟨ac,cc,rfl,_,_⟩:=own_fm o3;generalize nC str=nc at *;have hb3:Below w2.heap.size w2 (w2.alloc (.cells #[.slice ae (Pure.nM all) ce,.slice ar all.length cr,.slice ac nc cc] 43)):=bn_ _;have M0:Hid (Mm w0 w s all g w2.heap.size vn al cl (.slice ae (Pure.nM all) ce) (.slice ar all.length cr) (.slice ac nc cc) (w2.alloc (.cells #[.slice ae (Pure.nM all) ce,.slice ar all.length cr,.slice ac nc cc] 43))):=⟨bel0 hb2 hb3,(HD.out.below hb2).below hb3,heap_alloc_new _ _,own_below o2 hb3 lr_⟩;clear hb2 hb3 o1 o2 o3 n1 n2 hF hR FM RP HD EL RLn;go_upto_region 2 with (fail);generalize w2.alloc (.cells #[.slice ae (Pure.nM all) ce,.slice ar all.length cr,.slice ac nc cc] 43)=W3 at *;generalize w2.heap.size=gp at *;have p0:=bc_ 0 M0.out.b rfl;have p1:=bc_ 1 M0.out.b rfl;have d0:W3.cell? ⟨g,0,none⟩=some (.int .i64 ((Pure.nM all:Nat):Int)):=by rw [←MD];exact blk_cell (j:=0) M0.out.dl.dr.rb rfl
  have d2:W3.cell? ⟨g,2,none⟩=some (.slice al all.length cl):=by rw [←LD];exact blk_cell (j:=2) M0.out.dl.dr.rb rfl
  have e1:(((Pure.nM all:Nat):Int) != ((Pure.nM all:Nat):Int))=false:=by simp
  have e2:(((all.length:Nat):Int) != ((all.length:Nat):Int))=false:=by simp
  have HMD:=hide MD;have HLD:=hide LD;clear MD LD;go_quiet (fail);have M1:=hide (M0.out.below (below_drewN (Below.refl _ _) nq));clear M0 p0 p1 d0 d2 e1 e2;generalize W3.drewN nq=W4 at *
  go_wp2_with fail
  go_loopg [7,8] all.length (fun gk kv _ wx=>∃(k:Nat),k≤all.length∧gk=all.length-k∧kv=.int .i64 k∧Mm w0 w s all g gp vn al cl (.slice ae (Pure.nM all) ce) (.slice ar all.length cr) (.slice ac nc cc) wx)
  case atStart=>exact⟨0,Nat.zero_le _,rfl,rfl,M1.out⟩
  case round=>
   clear M1;obtain⟨k,kl,rfl,rfl,hM⟩:=hrel;have p1:=bc_ 1 hM.b rfl;by_cases hk:k<all.length
   ·have dk:=dl_ (k:Int) (all.length:Int) (by omega)
    have wi:=wr_ (k:Int) (by omega) (by omega);have ik0:=nz_ k;have ik1:(k:Int)<(all.length:Int):=by omega
    obtain⟨x,hx⟩:=gx_ all k hk;obtain⟨gv,rfl,q1,q2,q3⟩:=hM.dl.line HL.out hx;have q2':wr.cell? ⟨gv,k*5+1+1,none⟩=some (.int .i64 x.act):=q2;have q3':wr.cell? ⟨gv,k*5+1+2,none⟩=some (.int .i64 x.md):=q3;have d2:wr.cell? ⟨g,2,none⟩=some (.slice (some ⟨gv,0,none⟩) all.length cl):=by rw [←HLD.out];exact blk_cell (j:=2) hM.dl.dr.rb rfl
    obtain⟨gr,cr',er,_,_⟩:=own_some hM.r (by omega);cases er;have rg:=rulesP_rg all hx;have hbA:Below wr.heap.size wr (wr.alloc (.cells #[.int .i64 x.emit,.int .i64 x.act,.int .i64 x.md] 59)):=bn_ _;have MA:=hide (hM.below hbA);have XB:Hid (Blk (wr.alloc (.cells #[.int .i64 x.emit,.int .i64 x.act,.int .i64 x.md] 59)) wr.heap.size 59 [.int .i64 x.emit,.int .i64 x.act,.int .i64 x.md]):=heap_alloc_new _ _;have RG:=hide rg;clear hM hbA rg hx;go_upto_region 8 with (fail);clear q1 q2 q3 q2' q3' d2 p1;generalize wr.alloc (.cells #[.int .i64 x.emit,.int .i64 x.act,.int .i64 x.md] 59)=W5 at *;generalize wr.heap.size=gx at *;have x0:=bc_ 0 XB.out rfl;have x1:=bc_ 1 XB.out rfl;have x2:=bc_ 2 XB.out rfl;have p1:=bc_ 1 MA.out.b rfl;have cg:=ruleCells_get (Pure.rulesP (Pure.allLn all).1) k (by unfold Pure.rulesP;rw [List.length_map,(Pure.allLn_lin all).n];exact hk);rw [RG.out] at cg;have r0:W5.cell? ⟨gr,k*3,none⟩=some (.int .i64 x.emit):=by have:=own_cell MA.out.r cg.1;rwa [Nat.mul_comm] at this
    have r1:W5.cell? ⟨gr,k*3+1,none⟩=some (.int .i64 x.act):=by have:=own_cell MA.out.r cg.2.1;rwa [Nat.mul_comm] at this
    have r2:W5.cell? ⟨gr,k*3+2,none⟩=some (.int .i64 x.md):=by have:=own_cell MA.out.r cg.2.2;rwa [Nat.mul_comm] at this
    have e1:(x.emit != x.emit)=false:=by simp
    have e2:(x.act != x.act)=false:=by simp
    have e3:(x.md != x.md)=false:=by simp
    clear cg RG;go_quiet (fail);have M6:=hide (MA.out.below (below_drewN (Below.refl _ _) nq));clear MA XB x0 x1 x2 p1 r0 r1 r2 e1 e2 e3;go_wp2;go_roundg (all.length-(k+1))
    case measure=>omega
    case rel=>exact⟨k+1,by omega,rfl,by go_num,M6.out⟩
   ·have dk:=df_ (k:Int) (all.length:Int) (by omega)
    have B9:=hide hM.be;clear hM;go_wp2;go_ret;exact⟨rfl,B9.out⟩
 ·exact absurd ⟨FM.out.1,by rw [FM.out.2];exact RP.out⟩ hN
theorem pic_infoM:(Tryz.prog.info? 57).map (fun i=>(i.zero,i.size,i.bytes))=some (some (.agg #[.string ⟨#[]⟩,.pointer none]),2,24):=by kernel_rfl
theorem compiled_any (B gw:Nat) (dv:Value) (s:ByteArray) (w:World) (hw:Blk w gw 37 [.slice none 0 0,.slice none 0 0,dv]) (hB:B≤gw) (MACH:MachH s) :
  Calls Tryz.prog 7 #[.pointer (some ⟨gw,0,none⟩),.string s] w (fun e w'=>e=.returned (.bool true)∧Below B w w'):=by
 obtain⟨i0,hi,hz0,hz1,hz2⟩:=info_parts pic_infoM
 have HW:=hide hw
 have HM:=hide MACH
 have BS:B≤w.heap.size:=by have:=blk_lt hw;omega
 clear hw MACH
 go_enter Tryz.func7,Tryz.ntmps7
 go_wp2_with fail
 refine (compile_any s w).mono ?_
 rintro e w2 ⟨en,str,rfl,hb2,⟨⟨no,hpc⟩,h1,h2⟩⟩
 have CALL:=hide (dRead_any s en no hpc w2 HM.out)
 have B2:=hide hb2
 have W2:=hide (blk_below HW.out hb2 (blk_lt HW.out))
 have H1:=hide h1
 have H2:=hide h2
 clear hb2 hpc HW HM h1 h2
 go_wp2_with fail
 refine CALL.out.mono ?_
 clear CALL
 rintro e w3 ⟨p,rfl,hb3,hd⟩
 have B3:=hide (bel0 B2.out hb3)
 have W3:=hide (blk_below W2.out hb3 (blk_lt W2.out))
 have HD:=hide hd
 clear hb3 hd B2 W2
 by_cases he:en=0
 ·subst he
  obtain⟨all,g,vn,al,cl,hL,rfl,dl⟩:=HD.out rfl;obtain⟨all',hL',hD',hE',h42,hs⟩:=H2.out rfl;have ea:=hL.det hL';subst ea;have MADE:=hide (fun W (hb:Below w3.heap.size w3 W)=>made_any s str all' g vn al cl _ W (dl.below hb) hL h42 hs);clear hL hL' hD' hE' h42 hs dl H1 H2 HD
  go_wp2_with fail
  refine (num_any 0 w3).mono ?_
  rintro e w4 ⟨rfl,hb4⟩;have B4:=hide (bel0 B3.out hb4);have W4:=hide (blk_below W3.out hb4 (blk_lt W3.out));have MD:=hide (MADE.out w4 hb4);clear hb4 B3 W3 MADE
  go_wp2_with fail
  refine MD.out.mono ?_
  clear MD;rintro e w5 ⟨rfl,hb5⟩;have B5:=hide (bel0 B4.out hb5);have W5:=hide (blk_below W4.out hb5 (blk_lt W4.out));clear hb5 B4 W4;have i1:=bc_ 0 W5.out rfl;have hbA:Below w5.heap.size w5 (w5.alloc (.cells #[.string str,.pointer (some ⟨g,0,none⟩)] 57)):=bn_ _;have BA:=hide (bel0 B5.out hbA);have WA:=hide (blk_below W5.out hbA (blk_lt W5.out));have NB:Hid (Blk (w5.alloc (.cells #[.string str,.pointer (some ⟨g,0,none⟩)] 57)) w5.heap.size 57 [.string str,.pointer (some ⟨g,0,none⟩)]):=heap_alloc_new _ _;have SZ:Hid (w.heap.size≤(w5.alloc (.cells #[.string str,.pointer (some ⟨g,0,none⟩)] 57)).heap.size):=BA.out.size;clear hbA B5 W5
  go_wp2_with (at_builtin;go_must (refine wpList_append_own _ rfl (.tmp 37) (.tmp 41) 34 rfl w.heap.size 57 i0 (.agg #[.string ⟨#[]⟩,.pointer none]) 2 24 Tryz.underlying34 hi hz0 hz1 hz2 rfl (by decide) (.slice none 0 0) 0 [] rfl (World.ownsRow_nil _ _ _ _) ⟨w5.heap.size,0,none⟩ 1 1 [.string str,.pointer (some ⟨g,0,none⟩)] rfl rfl (fun j y hy=>by have:=blk_cell NB.out hy;simpa [add_eq] using this) (by intro u hu;simp at hu;rcases hu with rfl | rfl <;> rfl) (by unfold maxLen;omega) (by omega) SZ.out ?_);intro v8 w8 hown8 hgrow8 _;have mb8:=hide (blk_grown WA.out hgrow8 (fun e=>by cases e));have k8:=blk_cell (j:=0) mb8.out rfl;have f8:=blk_frozen mb8.out 0;have b8:=hide (BA.out.grown hgrow8 SZ.out (fun k e=>by cases e));obtain⟨a8,c8,rfl,_,_⟩:=own_fm hown8;clear hown8 hgrow8)
  have B9:Hid (Below B w (w8.setCell ⟨gw,0,none⟩ (.slice a8 (0+1) c8))):=(b8.out.mono BS).setCell hB _;go_ret;exact⟨rfl,B9.out⟩
 ·have es:=H1.out he
  subst es;have e1:(en != 0)=true:=by simpa using he
  have e2:(en == 0)=false:=by simpa using he
  have e3:(en != en)=false:=by simp
  clear HD H1 H2
  go_wp2_with fail
  refine (num_any en w3).mono ?_
  rintro e w4 ⟨rfl,hb4⟩;have B4:=hide ((bel0 B3.out hb4).mono BS);clear hb4 B3 W3;go_wp2;go_ret;exact⟨rfl,B4.out⟩
theorem compiles_any (s:ByteArray) (w:World) (MACH:MachH s):Calls Tryz.prog 4 #[.string s] w (RetVal (.bool true) w):=by
 have hb:Below w.heap.size w ((w.alloc (.cells #[.int .i64 0,.slice none 0 0,.slice none 0 0,.slice none 0 0,.slice none 0 0,.slice none 0 0,.slice none 0 0,.slice none 0 0,.slice none 0 0] 33)).alloc (.cells #[.slice none 0 0,.slice none 0 0,.pointer (some ⟨w.heap.size,0,none⟩)] 37)):=(bn_ _).alloc (by simp) _
 have hw:Blk ((w.alloc (.cells #[.int .i64 0,.slice none 0 0,.slice none 0 0,.slice none 0 0,.slice none 0 0,.slice none 0 0,.slice none 0 0,.slice none 0 0,.slice none 0 0] 33)).alloc (.cells #[.slice none 0 0,.slice none 0 0,.pointer (some ⟨w.heap.size,0,none⟩)] 37)) (w.heap.size+1) 37 [.slice none 0 0,.slice none 0 0,.pointer (some ⟨w.heap.size,0,none⟩)]:=by
  have:=heap_alloc_new (w.alloc (.cells #[.int .i64 0,.slice none 0 0,.slice none 0 0,.slice none 0 0,.slice none 0 0,.slice none 0 0,.slice none 0 0,.slice none 0 0,.slice none 0 0] 33)) (.cells #[.slice none 0 0,.slice none 0 0,.pointer (some ⟨w.heap.size,0,none⟩)] 37);simp only [World.size_alloc] at this;exact this
 have CALL:=hide (compiled_any w.heap.size (w.heap.size+1) _ s _ hw (by omega) MACH)
 have HB:=hide hb
 clear hb hw MACH
 go_enter Tryz.func4,Tryz.ntmps4
 go_wp2_with fail
 refine CALL.out.mono ?_
 clear CALL
 rintro e w1 ⟨rfl,hB1⟩
 have B1:=hide (HB.out.trans hB1)
 clear hB1
 go_wp2
 go_ret
 exact⟨rfl,B1.out⟩
end Go.Proofs.YtmccnmgaoppogaaGreat
