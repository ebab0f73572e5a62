/-
 The walks: classes. (rules)
 The walks: groups and atoms. (rules)
 The walks: atoms. (rules)
-/
import Derived.Test.YtmccnmgaoppogaaGreatED
namespace Go.Proofs.YtmccnmgaoppogaaGreat
set_option maxRecDepth 100000
set_option maxHeartbeats 8000000
open Go.RowKit
theorem grown_cells {g:Nat}:∀(vs:List Value) (o:Nat) (W:World),W.grownBy (W.setCells g o vs) (some g):=by
 intro vs
 induction vs with
 | nil=>intro o W;exact World.grownBy.refl _ _
 | cons v vs ih=>intro o W;exact (Lib.grownBy_setCell W g o v).trans (ih (o+1) _)
structure CT (B g:Nat) (s:ByteArray) (j:Nat) (ps:List Pure.Pl) (d:Bool) (vp:Value) (qs:List (Pure.Pl × Value)) (w:World) (gR gT:Nat) (T:Nat→Bool) (W:World):Prop where
 rd:Rd B g s j ps d vp qs W
 rk:Rk B w W
 r:Blk W gR 83 [.bool false,.slice none 0 0,.slice none 0 0]
 t:Blk W gT 233 (bitsL T)
 ap:w.heap.size≤gR∧w.heap.size≤gT∧B≤w.heap.size
section
variable {B g j j':Nat} {s:ByteArray} {ps:List Pure.Pl} {d d':Bool} {vp:Value} {qs:List (Pure.Pl × Value)} {w:World} {gR gT:Nat} {T:Nat→Bool} {W W':World}
theorem CT.below (h:CT B g s j ps d vp qs w gR gT T W) (hb:Below W.heap.size W W'):CT B g s j ps d vp qs w gR gT T W':=
 ⟨h.rd.below hb,h.rk.trans (.below h.rd.lt hb),blk_below h.r hb (blk_lt h.r),blk_below h.t hb (blk_lt h.t),h.ap⟩
theorem CT.moved (h:CT B g s j ps d vp qs w gR gT T W) (hg:W.grownBy W' (some g)) (hr:Rb W' g s j' vp d'):CT B g s j' ps d' vp qs w gR gT T W':=
 ⟨h.rd.moved hg hr,h.rk.trans (h.rd.rk hg),(h.rd.rk hg).blk h.r (by decide) (by decide),(h.rd.rk hg).blk h.t (by decide) (by decide),h.ap⟩
theorem CT.bits (h:CT B g s j ps d vp qs w gR gT T W) (U:Nat→Bool):CT B g s j ps d vp qs w gR gT U (W.setCells gT 0 (bitsL U)):=by
 have hg:=grown_cells (g:=gT) (bitsL U) 0 W
 exact⟨h.rd.far h.t (by decide) (by decide) (by decide) hg,h.rk.fresh hg h.ap.2.1 h.ap.2.2,blk_grown h.r hg (fun e=>blk_ne2 h.r h.t (by decide) (Option.some.inj e)),bits_stored h.t U,h.ap⟩
theorem CT.there (h:CT B g s j ps d vp qs w gR gT T W) (U:Nat→Bool):W.there gT 0 (bitsL U).toArray.size:=by
 have:=blk_there h.t
 rw [bitsL_length] at this
 simpa [bitsL_length] using this
end
theorem bits_size' (U:Nat→Bool):(Tryz.prog.info? 233).map (·.size)=some (bitsL U).toArray.size:=by simp only [List.size_toArray,bitsL_length];exact bits_size
theorem bits_storeCells {W:World} {g:Nat} {T:Nat→Bool} (h:Blk W g 233 (bitsL T)) (U:Nat→Bool):(storeCells ⟨g,0,none⟩ (bitsL U)).run Tryz.prog W=.ok () (W.setCells g 0 (bitsL U)):=by
 have ht:=blk_there h
 rw [bitsL_length] at ht
 have:=run_storeCells_cells (P:=Tryz.prog) g 0 (bitsL U) 0 W (fun j hj=>by rw [bitsL_length] at hj;simpa using (ht j hj).1) (fun j hj=>by rw [bitsL_length] at hj;simpa using (ht j hj).2) (fun v hv=>bitsL_one U v hv)
 exact this
def RetCl (B g:Nat) (s:ByteArray) (j0:Nat) (neg:Bool) (d:Bool) (ps:List Pure.Pl) (w:World) (e:Ending) (w':World):Prop:=
 (∃k T D v vp qs,Pure.Cl s j0 Pure.noneB false k T D∧e=.returned (.tuple #[v,.bool true])∧Pm w' v (Pure.oneP (if neg then Pure.notB T else T) ps).1∧Rk B w w'∧Rd B g s k (Pure.oneP (if neg then Pure.notB T else T) ps).2 (d || D) vp qs w')∨
 (∃k d' v vp qs,Pure.ClF s j0 k∧e=.returned (.tuple #[v,.bool false])∧Pm w' v ptZ∧Rk B w w'∧Rd B g s k ps d' vp qs w')
theorem class_any (B g i:Nat) (s:ByteArray) (ps:List Pure.Pl) (d:Bool) (vp:Value) (qs:List (Pure.Pl × Value)) (w:World) (neg:Bool) (hneg:neg=decide (Pure.pkb s i=94)) (h:Rd B g s i ps d vp qs w) (hl:ps.length≤i) (hi:i≤s.size) (hs:s.size≤400) :
  Calls Tryz.prog 168 #[.pointer (some ⟨g,0,none⟩)] w (RetCl B g s (if Pure.pkb s i=94 then i+1 else i) neg d ps w):=by
 have BL:=h.lt
 obtain⟨NB,hNB⟩:∃NB,NB=Pure.noneB:=⟨_,rfl⟩
 have zv:=bits_zeroV
 rw [←hNB] at zv
 have HNB:=hide hNB
 clear hNB
 have j0l:(if Pure.pkb s i=94 then i+1 else i)≤s.size:=by
  split
  ·rename_i h94
   exact Pure.pkb_lt (s:=s) (i:=i) (by rw [h94];decide)
  ·exact hi
 have C0:Hid (CT B g s i ps d vp qs w w.heap.size (w.heap.size+1) NB ((w.alloc (.cells #[.bool false,.slice none 0 0,.slice none 0 0] 83)).alloc (.cells (bitsL NB).toArray 233))):=by
  have hb:=((Below.refl w.heap.size w).alloc lr_ (.cells #[.bool false,.slice none 0 0,.slice none 0 0] 83)).alloc (by simp) (.cells (bitsL NB).toArray 233);have h2:=heap_alloc_new (w.alloc (.cells #[.bool false,.slice none 0 0,.slice none 0 0] 83)) (.cells (bitsL NB).toArray 233);rw [World.size_alloc] at h2;exact⟨h.below hb,.below BL hb,blk_alloc (heap_alloc_new w _) _,h2,lr_,by omega,BL⟩
 have TK:=hide (fun w1 (h1:Rb w1 g s i vp d)=>take_any g i s vp d 94 w1 h1 (by omega))
 rw [←hneg] at TK
 generalize (if Pure.pkb s i=94 then i+1 else i)=j0 at *
 clear h hneg
 go_enter Tryz.func168,Tryz.ntmps168
 have hsc:(storeCells ⟨w.heap.size+1,0,none⟩ (bitsL NB)).run Tryz.prog ((w.alloc (.cells #[.bool false,.slice none 0 0,.slice none 0 0] 83)).alloc (.cells (bitsL NB).toArray 233))=.ok () ((w.alloc (.cells #[.bool false,.slice none 0 0,.slice none 0 0] 83)).alloc (.cells (bitsL NB).toArray 233)):=by
  have:=run_storeCells_new (P:=Tryz.prog) (w.alloc (.cells #[.bool false,.slice none 0 0,.slice none 0 0] 83)) 233 (bitsL NB).toArray (bitsL NB).toArray (bits_size' NB) rfl (all_oneCell_toArray (bitsL_one NB));rw [World.size_alloc] at this;exact this
 go_wp2_with fail
 clear zv hsc
 have C1:=C0
 clear C0
 generalize ((w.alloc (.cells #[.bool false,.slice none 0 0,.slice none 0 0] 83)).alloc (.cells (bitsL NB).toArray 233))=W1 at *
 generalize hgR:w.heap.size=gR at *
 generalize hgT:gR+1=gT at *
 refine (TK.out W1 C1.out.rd.rb).mono ?_
 clear TK
 rintro e w2 ⟨rfl,hg2,hr2⟩
 have C2:=hide (C1.out.moved hg2 hr2)
 clear hg2 hr2 C1
 go_wp2_with fail
 go_loopg [8] (s.size-j0) (fun gk _ok wx=>∃j T D,j≤s.size∧gk=s.size-j∧CT B g s j ps (d || D) vp qs w gR gT T wx∧(∀k T' D',Pure.Cl s j T D k T' D'→Pure.Cl s j0 Pure.noneB false k T' D')∧(∀k,Pure.ClF s j k→Pure.ClF s j0 k))
 case atStart=>exact⟨_,NB,false,j0l,rfl,by rw [Bool.or_false];exact C2.out,fun k T' D' hc=>by rw [←HNB.out];exact hc,fun k hc=>hc⟩
 case round=>
  clear C2;obtain⟨j,T,D,jl,rfl,hC,c1,c2⟩:=hrel;have IT:=hide (item_any g j s vp (d || D) wr hC.rd.rb jl (by omega));have HC:=hide hC;have CC:=hide c1;have CF:=hide c2;clear hC c1 c2
  go_wp2_with fail
  refine IT.out.mono ?_
  clear IT;rintro e w3 (⟨j2,lo,hi2,r,hit,rfl,hg3,hr3⟩ | ⟨j2,x,y,hit,rfl,hg3,hr3⟩)
  ·have C3:=hide (HC.out.moved hg3 hr3)
   have HI:=hide hit;have j2l:=hit.le;have jlt:=hit.lt;clear hg3 hr3 HC hit
   go_wp2_with (refine wpList_load_mid rfl 233 (.tmp 4) rfl gT 0 rfl (bitsL T) _ (blk_range C3.out.t) Tryz.underlying233 rfl (by rw [bitsL_length];exact bits_size) ?_)
   refine (with_any T lo hi2 w3).mono ?_
   rintro e w4 ⟨rfl,hb4⟩;have C4:=hide (C3.out.below hb4);clear hb4 C3;have hsc:=bits_storeCells C4.out.t (Pure.wid T lo hi2)
   go_wp2_with fail
   clear hsc;have C5:=hide (C4.out.bits (Pure.wid T lo hi2));clear C4;generalize w4.setCells gT 0 (bitsL (Pure.wid T lo hi2))=W5 at *;have TK:=hide (take_any g j2 s vp ((d || D) || decide (hi2<lo)) 93 W5 C5.out.rd.rb (by omega));by_cases h93:Pure.pkb s j2=93
   ·rw [if_pos h93,decide_eq_true h93] at TK
    refine TK.out.mono ?_
    clear TK;rintro e w6 ⟨rfl,hg6,hr6⟩;have C6:=hide (C5.out.moved hg6 hr6);have CL:Hid (Pure.Cl s j0 Pure.noneB false (j2+1) (Pure.wid T lo hi2) (D || decide (hi2<lo))):=CC.out _ _ _ (.done HI.out h93);have DD:Hid (((d || D) || decide (hi2<lo))=(d || (D || decide (hi2<lo)))):=Bool.or_assoc _ _ _;clear hg6 hr6 C5 HI h93
    cases neg with
    | false=>
     go_wp2_with (refine wpList_load_mid rfl 233 (.tmp 4) rfl gT 0 rfl (bitsL (Pure.wid T lo hi2)) _ (blk_range C6.out.t) Tryz.underlying233 rfl (by rw [bitsL_length];exact bits_size) ?_)
     refine (one_any B g (j2+1) s ps _ vp qs (Pure.wid T lo hi2) w6 C6.out.rd (by omega)).mono ?_
     intro e w7 hq;obtain⟨v7,vp7,qs7,rfl,pm7,k7,r7⟩:=hq.pm;have X7:=hide (k7.blk C6.out.r (by decide) (by decide));have z0:=bc_ 0 X7.out rfl;have z1:=bc_ 1 X7.out rfl;have z2:=bc_ 2 X7.out rfl;have f0:=blk_frozen X7.out 0;have f1:=blk_frozen X7.out 1;have f2:=blk_frozen X7.out 2;obtain⟨af,nf,cf,al,nl,cl,rfl,ld,pmF,rkF,rdF⟩:=fin3 (C6.out.rk.trans k7) r7 X7.out C6.out.ap.1 C6.out.ap.2.2 pm7;have PF1:=hide pmF;have RF:=hide rdF;have KF:=hide rkF;clear hq pm7 k7 r7 C6 pmF rkF rdF;go_wp2;refine bodyPost_ret (v:=.tuple #[.agg #[.bool (Pure.oneP (Pure.wid T lo hi2) ps).1.empty,.slice af nf cf,.slice al nl cl],.bool true]) (by simp [results,Tryz.results168,asAddr,Result.andThen,ld]) rfl ?_
     exact .inl ⟨j2+1,_,_,_,_,_,CL.out,rfl,PF1.out,KF.out,by rw [←DD.out];exact RF.out⟩
    | true=>
     go_wp2_with (refine wpList_load_mid rfl 233 (.tmp 4) rfl gT 0 rfl (bitsL (Pure.wid T lo hi2)) _ (blk_range C6.out.t) Tryz.underlying233 rfl (by rw [bitsL_length];exact bits_size) ?_)
     refine (allBut_any (Pure.wid T lo hi2) w6).mono ?_
     rintro e w61 ⟨rfl,hb61⟩;have C61:=hide (C6.out.below hb61);clear hb61 C6;have hsc:=bits_storeCells C61.out.t (Pure.notB (Pure.wid T lo hi2));go_upto_region 10 with (fail);clear hsc;have C62:=hide (C61.out.bits (Pure.notB (Pure.wid T lo hi2)));clear C61;generalize w61.setCells gT 0 (bitsL (Pure.notB (Pure.wid T lo hi2)))=W62 at *
     go_wp2_with (refine wpList_load_mid rfl 233 (.tmp 4) rfl gT 0 rfl (bitsL (Pure.notB (Pure.wid T lo hi2))) _ (blk_range C62.out.t) Tryz.underlying233 rfl (by rw [bitsL_length];exact bits_size) ?_)
     refine (one_any B g (j2+1) s ps _ vp qs (Pure.notB (Pure.wid T lo hi2)) W62 C62.out.rd (by omega)).mono ?_
     intro e w7 hq;obtain⟨v7,vp7,qs7,rfl,pm7,k7,r7⟩:=hq.pm;have X7:=hide (k7.blk C62.out.r (by decide) (by decide));have z0:=bc_ 0 X7.out rfl;have z1:=bc_ 1 X7.out rfl;have z2:=bc_ 2 X7.out rfl;have f0:=blk_frozen X7.out 0;have f1:=blk_frozen X7.out 1;have f2:=blk_frozen X7.out 2;obtain⟨af,nf,cf,al,nl,cl,rfl,ld,pmF,rkF,rdF⟩:=fin3 (C62.out.rk.trans k7) r7 X7.out C62.out.ap.1 C62.out.ap.2.2 pm7;have PF1:=hide pmF;have RF:=hide rdF;have KF:=hide rkF;clear hq pm7 k7 r7 C62 pmF rkF rdF;go_wp2;refine bodyPost_ret (v:=.tuple #[.agg #[.bool (Pure.oneP (Pure.notB (Pure.wid T lo hi2)) ps).1.empty,.slice af nf cf,.slice al nl cl],.bool true]) (by simp [results,Tryz.results168,asAddr,Result.andThen,ld]) rfl ?_
     exact .inl ⟨j2+1,_,_,_,_,_,CL.out,rfl,PF1.out,KF.out,by rw [←DD.out];exact RF.out⟩
   ·rw [if_neg h93,decide_eq_false h93] at TK
    have C7:Hid (∀k T' D',Pure.Cl s j2 (Pure.wid T lo hi2) (D || decide (hi2<lo)) k T' D'→Pure.Cl s j0 Pure.noneB false k T' D'):=fun k T' D' hc=>CC.out _ _ _ (.more HI.out h93 hc)
    have F7:Hid (∀k,Pure.ClF s j2 k→Pure.ClF s j0 k):=fun k hc=>CF.out _ (.more HI.out h93 hc)
    refine TK.out.mono ?_
    clear TK;rintro e w6 ⟨rfl,hg6,hr6⟩;have C6:=hide (C5.out.moved hg6 hr6);have DD:Hid (((d || D) || decide (hi2<lo))=(d || (D || decide (hi2<lo)))):=Bool.or_assoc _ _ _;clear hg6 hr6 C5 HI h93;go_wp2;go_roundg (s.size-j2)
    case measure=>omega
    case rel=>exact⟨j2,Pure.wid T lo hi2,D || decide (hi2<lo),j2l,rfl,by rw [←DD.out];exact C6.out,C7.out,F7.out⟩
  ·have C3:=hide (HC.out.moved hg3 hr3)
   have FF:=hide (CF.out _ (.here hit));clear hg3 hr3 HC hit;have z0:=bc_ 0 C3.out.r rfl;have z1:=bc_ 1 C3.out.r rfl;have z2:=bc_ 2 C3.out.r rfl;have f0:=blk_frozen C3.out.r 0;have f1:=blk_frozen C3.out.r 1;have f2:=blk_frozen C3.out.r 2;obtain⟨af,nf,cf,al,nl,cl,hv,ld,pmF,rkF,rdF⟩:=fin3 C3.out.rk C3.out.rd C3.out.r C3.out.ap.1 C3.out.ap.2.2 (pm_zero w3);cases hv;simp only [show ptZ.empty=false from rfl] at ld pmF rkF rdF;have PF1:=hide pmF;have RF:=hide rdF;have KF:=hide rkF;clear pmF rkF rdF C3;go_wp2;refine bodyPost_ret (v:=.tuple #[.agg #[.bool false,.slice none 0 0,.slice none 0 0],.bool false]) (by simp [results,Tryz.results168,asAddr,Result.andThen,ld]) rfl ?_
   exact .inr ⟨_,_,_,_,_,FF.out,rfl,PF1.out,KF.out,RF.out⟩
def RdOK (f:Nat) (nt:Pure.Nt) (nf:Pure.Nf) (s:ByteArray) (i:Nat):Prop:=
 ∀(B g:Nat) (ps:List Pure.Pl) (d:Bool) (vp:Value) (qs:List (Pure.Pl × Value)) (w:World),Rd B g s i ps d vp qs w→Pure.PlsOK ps→ps.length≤i→Calls Tryz.prog f #[.pointer (some ⟨g,0,none⟩)] w (RetP B g s i nt nf d ps w)
abbrev set3 (W:World) (g:Nat) (a b c:Value):World:=((W.setCell ⟨g,0,none⟩ a).setCell ⟨g,1,none⟩ b).setCell ⟨g,2,none⟩ c
theorem RetP.fin {B g i gR:Nat} {s:ByteArray} {nt:Pure.Nt} {nf:Pure.Nf} {d:Bool} {ps:List Pure.Pl} {w W0 w1:World} {e:Ending} {x y z:Value}
  (h:RetP B g s i nt nf d ps W0 e w1) (hx:Blk W0 gR 83 [x,y,z]) (hr:w.heap.size≤gR) (K0:Rk B w W0) (BL:B≤w.heap.size) :
  ∃c af mf cf al nl cl ok,e=.returned (.tuple #[.agg #[.bool c,.slice af mf cf,.slice al nl cl],.bool ok])∧Blk w1 gR 83 [x,y,z]∧
   (loadVar 83 ⟨gR,0,none⟩).run Tryz.prog (set3 w1 gR (.bool c) (.slice af mf cf) (.slice al nl cl))=.ok (.agg #[.bool c,.slice af mf cf,.slice al nl cl]) (set3 w1 gR (.bool c) (.slice af mf cf) (.slice al nl cl))∧
   RetP B g s i nt nf d ps w (.returned (.tuple #[.agg #[.bool c,.slice af mf cf,.slice al nl cl],.bool ok])) (set3 w1 gR (.bool c) (.slice af mf cf) (.slice al nl cl)):=by
 rcases h with ⟨j,re,D,v,vp,qs,hP,rfl,pm,rk,rd⟩ | ⟨k,a,ps',d',v,vp,qs,hF,rfl,pm,oa,ok,lk,rk,rd⟩
 ·have hb:=rk.blk hx (by decide) (by decide)
  obtain⟨af,mf,cf,al,nl,cl,rfl,ld,pmF,rkF,rdF⟩:=fin3 (K0.trans rk) rd hb hr BL pm;exact⟨_,af,mf,cf,al,nl,cl,true,rfl,hb,ld,.inl ⟨j,re,D,_,vp,qs,hP,rfl,pmF,rkF,rdF⟩⟩
 ·have hb:=rk.blk hx (by decide) (by decide)
  obtain⟨af,mf,cf,al,nl,cl,rfl,ld,pmF,rkF,rdF⟩:=fin3 (K0.trans rk) rd hb hr BL pm;exact⟨_,af,mf,cf,al,nl,cl,false,rfl,hb,ld,.inr ⟨k,a,ps',d',_,vp,qs,hF,rfl,pmF,oa,ok,lk,rkF,rdF⟩⟩
theorem RetP.yes {B g i j gR:Nat} {s:ByteArray} {nt:Pure.Nt} {nf:Pure.Nf} {d D:Bool} {ps:List Pure.Pl} {re:Pure.Re} {vp:Value} {qs:List (Pure.Pl × Value)} {w W:World} {x y z:Value} {c:Bool} {af al:Option Addr} {mf cf nl cl:Nat}
  (hP:Pure.P s nt i j re D) (rd:Rd B g s j (Pure.part re ps).2 (d || D) vp qs W) (pm:Pm W (.agg #[.bool c,.slice af mf cf,.slice al nl cl]) (Pure.part re ps).1) (hx:Blk W gR 83 [x,y,z]) (hr:w.heap.size≤gR) (K0:Rk B w W) (BL:B≤w.heap.size) :
  (loadVar 83 ⟨gR,0,none⟩).run Tryz.prog (set3 W gR (.bool c) (.slice af mf cf) (.slice al nl cl))=.ok (.agg #[.bool c,.slice af mf cf,.slice al nl cl]) (set3 W gR (.bool c) (.slice af mf cf) (.slice al nl cl))∧
   RetP B g s i nt nf d ps w (.returned (.tuple #[.agg #[.bool c,.slice af mf cf,.slice al nl cl],.bool true])) (set3 W gR (.bool c) (.slice af mf cf) (.slice al nl cl)):=by
 obtain⟨af,mf,cf,al,nl,cl,hv,ld,pmF,rkF,rdF⟩:=fin3 K0 rd hx hr BL pm
 cases hv
 exact⟨ld,.inl ⟨j,re,D,_,vp,qs,hP,rfl,pmF,rkF,rdF⟩⟩
theorem RetP.no {B g i k gR:Nat} {s:ByteArray} {nt:Pure.Nt} {nf:Pure.Nf} {d d':Bool} {ps ps':List Pure.Pl} {vp:Value} {qs:List (Pure.Pl × Value)} {w W:World} {x y z:Value}
  (hF:Pure.PF s nf i k) (rd:Rd B g s k ps' d' vp qs W) (ok:Pure.PlsOK ps') (lk:ps.length≤ps'.length∧ps'.length≤k) (hx:Blk W gR 83 [x,y,z]) (hr:w.heap.size≤gR) (K0:Rk B w W) (BL:B≤w.heap.size) :
  (loadVar 83 ⟨gR,0,none⟩).run Tryz.prog (set3 W gR (.bool false) (.slice none 0 0) (.slice none 0 0))=.ok (.agg #[.bool false,.slice none 0 0,.slice none 0 0]) (set3 W gR (.bool false) (.slice none 0 0) (.slice none 0 0))∧
   RetP B g s i nt nf d ps w (.returned (.tuple #[.agg #[.bool false,.slice none 0 0,.slice none 0 0],.bool false])) (set3 W gR (.bool false) (.slice none 0 0) (.slice none 0 0)):=by
 obtain⟨af,mf,cf,al,nl,cl,hv,ld,pmF,rkF,rdF⟩:=fin3 K0 rd hx hr BL (pm_zero W)
 cases hv
 exact⟨ld,.inr ⟨k,ptZ,ps',d',_,vp,qs,hF,rfl,pmF,ptZ_ok _,ok,lk,rkF,rdF⟩⟩
theorem group_any (B g i:Nat) (s:ByteArray) (ps:List Pure.Pl) (d:Bool) (vp:Value) (qs:List (Pure.Pl × Value)) (w:World) (PA:RdOK 140 .pa .pa s (i+1)) (h40:Pure.pkb s i=40) (h:Rd B g s (i+1) ps d vp qs w) (hok:Pure.PlsOK ps) (hl:ps.length≤i) (hs:s.size≤400) :
  Calls Tryz.prog 167 #[.pointer (some ⟨g,0,none⟩)] w (RetP B g s i .atom .atom d ps w):=by
 have BL:=h.lt
 have i1:i+1≤s.size:=Pure.pkb_lt (s:=s) (i:=i) (by rw [h40];decide)
 have XR:Hid (Blk (w.alloc (.cells #[.bool false,.slice none 0 0,.slice none 0 0] 83)) w.heap.size 83 [.bool false,.slice none 0 0,.slice none 0 0]):=heap_alloc_new _ _
 have H0:=hide (h.below ((Below.refl w.heap.size w).alloc lr_ (.cells #[.bool false,.slice none 0 0,.slice none 0 0] 83)))
 have K0:Hid (Rk B w (w.alloc (.cells #[.bool false,.slice none 0 0,.slice none 0 0] 83))):=.alloc BL _
 have OK:=hide hok
 have H40:=hide h40
 clear h hok h40
 go_enter Tryz.func167,Tryz.ntmps167
 go_wp2_with fail
 generalize w.alloc (.cells #[.bool false,.slice none 0 0,.slice none 0 0] 83)=W0 at *
 refine (PA B g ps d vp qs W0 H0.out OK.out (by omega)).mono ?_
 rintro e w1 (⟨j,re,D,v,vp1,qs1,hP,rfl,pm,rk,rd⟩ | ⟨k,a,ps',d',v,vp1,qs1,hF,rfl,pm,oa,ok',lk,rk,rd⟩)
 ·obtain⟨af,mf,cf,al,nl,cl,rfl,n1,n2⟩:=pm
  have jl:j≤s.size:=hP.le i1 2 (.inl ⟨trivial,.inl rfl⟩);have lv:=hP.leaves;simp only [Pure.Nt.lv] at lv;have pok:=hide (Pure.part_ok re ps OK.out);have plen:=Pure.part_length re ps;have hb:=(Below.refl w1.heap.size w1).alloc lr_ (.cells #[.bool (Pure.part re ps).1.empty,.slice af mf cf,.slice al nl cl] 83);have R2:=hide (rd.below hb);have K2:=hide ((K0.out.trans rk).trans (.below rd.lt hb));have X2:=hide (blk_below (rk.blk XR.out (by decide) (by decide)) hb (blk_lt (rk.blk XR.out (by decide) (by decide))));have PM2:Hid (Pm (w1.alloc (.cells #[.bool (Pure.part re ps).1.empty,.slice af mf cf,.slice al nl cl] 83)) (.agg #[.bool (Pure.part re ps).1.empty,.slice af mf cf,.slice al nl cl]) (Pure.part re ps).1):=⟨_,_,_,_,_,_,rfl,n1.below hb,n2.below hb⟩;have XP2:Hid (Blk (w1.alloc (.cells #[.bool (Pure.part re ps).1.empty,.slice af mf cf,.slice al nl cl] 83)) w1.heap.size 83 [.bool (Pure.part re ps).1.empty,.slice af mf cf,.slice al nl cl]):=heap_alloc_new _ _;have HP:=hide hP;clear rk rd n1 n2 H0 K0 XR hb hP;generalize (Pure.part re ps).1.empty=em at *
  go_wp2_with fail
  generalize w1.alloc (.cells #[.bool em,.slice af mf cf,.slice al nl cl] 83)=W2 at *;have TK:=hide (take_any g j s vp1 (d || D) 41 W2 R2.out.rb (by omega));by_cases h41:Pure.pkb s j=41
  ·rw [if_pos h41,decide_eq_true h41] at TK
   have PP:Hid (Pure.P s .atom i (j+1) re D):=.grp H40.out HP.out h41;clear h41;refine TK.out.mono ?_
   clear TK;rintro e w3 ⟨rfl,hg3,hr3⟩;have rk3:=R2.out.rk hg3;have R3:=hide (R2.out.moved hg3 hr3);have K3:=hide (K2.out.trans rk3);have X3:=hide (rk3.blk X2.out (by decide) (by decide));have XP3:=hide (rk3.blk XP2.out (by decide) (by decide));have PM3:=hide (PM2.out.rk rk3);clear hg3 hr3 rk3 R2 K2 X2 XP2 PM2;obtain⟨ld,FIN⟩:=RetP.yes (nf:=.atom) PP.out R3.out PM3.out X3.out lr_ K3.out BL;have FIN:=hide FIN;have z0:=bc_ 0 X3.out rfl;have z1:=bc_ 1 X3.out rfl;have z2:=bc_ 2 X3.out rfl;have f0:=blk_frozen X3.out 0;have f1:=blk_frozen X3.out 1;have f2:=blk_frozen X3.out 2;have p0:=bc_ 0 XP3.out rfl;have p1:=bc_ 1 XP3.out rfl;have p2:=bc_ 2 XP3.out rfl;go_wp2;exact bodyPost_ret (by simp [results,Tryz.results167,asAddr,Result.andThen,ld]) rfl FIN.out
  ·rw [if_neg h41,decide_eq_false h41] at TK
   have PP:Hid (Pure.PF s .atom i j):=.grp' H40.out HP.out h41;clear h41;refine TK.out.mono ?_
   clear TK;rintro e w3 ⟨rfl,hg3,hr3⟩;have rk3:=R2.out.rk hg3;have R3:=hide (R2.out.moved hg3 hr3);have K3:=hide (K2.out.trans rk3);have X3:=hide (rk3.blk X2.out (by decide) (by decide));clear hg3 hr3 rk3 R2 K2 X2 XP2 PM2;obtain⟨ld,FIN⟩:=RetP.no (nt:=.atom) (d:=d) (ps:=ps) PP.out R3.out pok.out.2 ⟨by omega,by omega⟩ X3.out lr_ K3.out BL;have FIN:=hide FIN;have z0:=bc_ 0 X3.out rfl;have z1:=bc_ 1 X3.out rfl;have z2:=bc_ 2 X3.out rfl;have f0:=blk_frozen X3.out 0;have f1:=blk_frozen X3.out 1;have f2:=blk_frozen X3.out 2;go_wp2;exact bodyPost_ret (by simp [results,Tryz.results167,asAddr,Result.andThen,ld]) rfl FIN.out
 ·obtain⟨af,mf,cf,al,nl,cl,rfl,n1,n2⟩:=pm
  have PP:Hid (Pure.PF s .atom i k):=.grp H40.out hF;have hb:=(Below.refl w1.heap.size w1).alloc lr_ (.cells #[.bool a.empty,.slice af mf cf,.slice al nl cl] 83);have R2:=hide (rd.below hb);have K2:=hide ((K0.out.trans rk).trans (.below rd.lt hb));have X2:=hide (blk_below (rk.blk XR.out (by decide) (by decide)) hb (blk_lt (rk.blk XR.out (by decide) (by decide))));clear rk rd n1 n2 H0 K0 XR hb hF;generalize a.empty=em at *;obtain⟨ld,FIN⟩:=RetP.no (nt:=.atom) (d:=d) (ps:=ps) PP.out R2.out ok' lk X2.out lr_ K2.out BL;have FIN:=hide FIN;have z0:=bc_ 0 X2.out rfl;have z1:=bc_ 1 X2.out rfl;have z2:=bc_ 2 X2.out rfl;have f0:=blk_frozen X2.out 0;have f1:=blk_frozen X2.out 1;have f2:=blk_frozen X2.out 2;go_upto_region 2 with (fail);generalize w1.alloc (.cells #[.bool em,.slice af mf cf,.slice al nl cl] 83)=W2 at *;go_wp2;exact bodyPost_ret (by simp [results,Tryz.results167,asAddr,Result.andThen,ld]) rfl FIN.out
namespace Pure
theorem SgF.ge {s:ByteArray} {i j:Nat} (h:SgF s i j):i≤j:=by cases h <;> omega
theorem ItF.ge {s:ByteArray} {i j:Nat} (h:ItF s i j):i≤j:=by
 cases h with
 | one h1=>exact h1.ge
 | range h1 _ h3=>have:=h1.lt;have:=h3.ge;omega
theorem ClF.ge {s:ByteArray} {i k:Nat} (h:ClF s i k):i≤k:=by
 induction h with
 | here h1=>exact h1.ge
 | more h1 _ _ ih=>have:=h1.lt;omega
end Pure
theorem RetCl.retP {B g i:Nat} {s:ByteArray} {d:Bool} {ps:List Pure.Pl} {W w':World} {e:Ending} (h91:Pure.pkb s i=91) (hok:Pure.PlsOK ps) (hl:ps.length≤i)
  (h:RetCl B g s (if Pure.pkb s (i+1)=94 then i+1+1 else i+1) (decide (Pure.pkb s (i+1)=94)) d ps W e w'):RetP B g s i .atom .atom d ps W e w':=by
 by_cases h94:Pure.pkb s (i+1)=94
 ·rw [if_pos h94,decide_eq_true h94] at h
  rcases h with ⟨k,T,D,v,vp,qs,hc,he,pm,rk,rd⟩ | ⟨k,d',v,vp,qs,hc,he,pm,rk,rd⟩
  ·exact .inl ⟨k,.pl (Pure.notB T),D,v,vp,qs,.ncls h91 h94 hc,he,pm,rk,rd⟩
  ·have:=hc.ge
   exact .inr ⟨k,ptZ,ps,d',v,vp,qs,.ncls h91 h94 hc,he,pm,ptZ_ok _,hok,⟨lr_,by omega⟩,rk,rd⟩
 ·rw [if_neg h94,decide_eq_false h94] at h
  rcases h with ⟨k,T,D,v,vp,qs,hc,he,pm,rk,rd⟩ | ⟨k,d',v,vp,qs,hc,he,pm,rk,rd⟩
  ·exact .inl ⟨k,.pl T,D,v,vp,qs,.cls h91 h94 hc,he,pm,rk,rd⟩
  ·have:=hc.ge
   exact .inr ⟨k,ptZ,ps,d',v,vp,qs,.cls h91 h94 hc,he,pm,ptZ_ok _,hok,⟨lr_,by omega⟩,rk,rd⟩
theorem RetPt.retP {B g i j:Nat} {s:ByteArray} {d:Bool} {ps:List Pure.Pl} {T:Nat→Bool} {W w':World} {e:Ending} (hP:Pure.P s .atom i j (.pl T) false) (h:RetPt B g s j d (Pure.oneP T ps) W e w') :
  ∃c af mf cf al nl cl vp qs,e=.returned (.agg #[.bool c,.slice af mf cf,.slice al nl cl])∧Pm w' (.agg #[.bool c,.slice af mf cf,.slice al nl cl]) (Pure.part (.pl T) ps).1∧Rk B W w'∧Rd B g s j (Pure.part (.pl T) ps).2 (d || false) vp qs w'∧Pure.P s .atom i j (.pl T) false:=by
 obtain⟨v,vp,qs,rfl,pm,rk,rd⟩:=h.pm
 obtain⟨af,mf,cf,al,nl,cl,rfl,n1,n2⟩:=pm
 exact⟨_,af,mf,cf,al,nl,cl,vp,qs,rfl,⟨_,_,_,_,_,_,rfl,n1,n2⟩,rk,by rw [Bool.or_false];exact rd,hP⟩
theorem atom_any (s:ByteArray) (i:Nat) (PA:i<s.size→RdOK 140 .pa .pa s (i+1)) (hi:i≤s.size) (hs:s.size≤400):RdOK 161 .atom .atom s i:=by
 intro B g ps d vp qs w h hok hl
 have BL:=h.lt
 have XR:Hid (Blk (w.alloc (.cells #[.bool false,.slice none 0 0,.slice none 0 0] 83)) w.heap.size 83 [.bool false,.slice none 0 0,.slice none 0 0]):=heap_alloc_new _ _
 have H0:=hide (h.below ((Below.refl w.heap.size w).alloc lr_ (.cells #[.bool false,.slice none 0 0,.slice none 0 0] 83)))
 have K0:Hid (Rk B w (w.alloc (.cells #[.bool false,.slice none 0 0,.slice none 0 0] 83))):=.alloc BL _
 have OK:=hide hok
 have PA:=hide PA
 clear h hok
 go_enter Tryz.func161,Tryz.ntmps161
 go_wp2_with fail
 generalize w.alloc (.cells #[.bool false,.slice none 0 0,.slice none 0 0] 83)=W0 at *
 refine (peek_any g i s vp d W0 H0.out.rb).mono ?_
 rintro e w1 ⟨rfl,hb1⟩
 have R1:=hide (H0.out.below hb1)
 have K1:=hide (K0.out.trans (.below H0.out.lt hb1))
 have X1:=hide (blk_below XR.out hb1 (blk_lt XR.out))
 clear hb1 H0 K0 XR
 obtain⟨b,hb⟩:∃b,b=Pure.pkb s i:=⟨_,rfl⟩
 have HB:=hide hb
 rw [←hb]
 clear hb
 go_wp2_with fail
 refine (beginsAtom_any b w1).mono ?_
 rintro e w2 ⟨rfl,hb2⟩
 have R2:=hide (R1.out.below hb2)
 have K2:=hide (K1.out.trans (.below R1.out.lt hb2))
 have X2:=hide (blk_below X1.out hb2 (blk_lt X1.out))
 clear hb2 R1 K1 X1
 have gl:=blk_lt X2.out
 by_cases hbeg:Pure.BegAtom b
 ·rw [decide_eq_true hbeg]
  by_cases h92:b=92
  ·subst h92
   have ES:=hide (escaped_any B g i s ps d vp qs w2 R2.out OK.out hl hi hs HB.out.symm);clear hbeg
   go_wp2_with fail
   refine ES.out.mono ?_
   clear ES;intro e w3 hq;obtain⟨c,af,mf,cf,al,nl,cl,ok,rfl,X3,ld,FIN⟩:=hq.fin X2.out lr_ K2.out BL;have FIN:=hide FIN;clear hq;have z0:=bc_ 0 X3 rfl;have z1:=bc_ 1 X3 rfl;have z2:=bc_ 2 X3 rfl;have f0:=blk_frozen X3 0;have f1:=blk_frozen X3 1;have f2:=blk_frozen X3 2;clear X3;go_wp2;exact bodyPost_ret (by simp [results,Tryz.results161,asAddr,Result.andThen,ld]) rfl FIN.out
  ·have e92:(b == 92)=false:=by simpa using h92
   have hne:b≠-1:=by unfold Pure.BegAtom at hbeg;omega
   have ilt:i<s.size:=Pure.pkb_lt (s:=s) (i:=i) (by rw [←HB.out];exact hne);have BEG:=hide hbeg;have N92:=hide h92;clear hbeg h92 hne;have c1:=bc_ 1 R2.out.rb rfl;have f1:=blk_frozen R2.out.rb 1;have wi:=wr_ (i:Int) (by omega) (by omega);have hg3:=Lib.grownBy_setCell w2 g 1 (.int .i64 ((i:Int)+1));have R3:Hid (Rd B g s (i+1) ps d vp qs (w2.setCell ⟨g,1,none⟩ (.int .i64 ((i:Int)+1)))):=R2.out.moved hg3 (R2.out.rb.at (i+1));have K3:=hide (K2.out.trans (R2.out.rk hg3));have X3:=hide ((R2.out.rk hg3).blk X2.out (by decide) (by decide));clear hg3;by_cases h40:b=40
   ·subst h40
    go_wp2_with fail
    clear c1 f1;generalize w2.setCell ⟨g,1,none⟩ (.int .i64 ((i:Int)+1))=W3 at *;refine (group_any B g i s ps d vp qs W3 (PA.out ilt) HB.out.symm R3.out OK.out hl hs).mono ?_
    intro e w4 hq;obtain⟨c,af,mf,cf,al,nl,cl,ok,rfl,X4,ld,FIN⟩:=hq.fin X3.out lr_ K3.out BL;have FIN:=hide FIN;clear hq;have z0:=bc_ 0 X4 rfl;have z1:=bc_ 1 X4 rfl;have z2:=bc_ 2 X4 rfl;have f0:=blk_frozen X4 0;have f1:=blk_frozen X4 1;have f2:=blk_frozen X4 2;clear X4;go_wp2;exact bodyPost_ret (by simp [results,Tryz.results161,asAddr,Result.andThen,ld]) rfl FIN.out
   ·have e40:(b == 40)=false:=by simpa using h40
    by_cases h91:b=91
    ·subst h91
     go_wp2_with fail
     clear c1 f1;generalize w2.setCell ⟨g,1,none⟩ (.int .i64 ((i:Int)+1))=W3 at *;refine (class_any B g (i+1) s ps d vp qs W3 _ rfl R3.out (by omega) (by omega) hs).mono ?_
     intro e w4 hq;have hq:=RetCl.retP HB.out.symm OK.out hl hq;obtain⟨c,af,mf,cf,al,nl,cl,ok,rfl,X4,ld,FIN⟩:=hq.fin X3.out lr_ K3.out BL;have FIN:=hide FIN;clear hq;have z0:=bc_ 0 X4 rfl;have z1:=bc_ 1 X4 rfl;have z2:=bc_ 2 X4 rfl;have f0:=blk_frozen X4 0;have f1:=blk_frozen X4 1;have f2:=blk_frozen X4 2;clear X4;go_wp2;exact bodyPost_ret (by simp [results,Tryz.results161,asAddr,Result.andThen,ld]) rfl FIN.out
    ·have e91:(b == 91)=false:=by simpa using h91
     by_cases h46:b=46
     ·subst h46
      go_wp2_with fail
      clear c1 f1;generalize w2.setCell ⟨g,1,none⟩ (.int .i64 ((i:Int)+1))=W3 at *;refine (only_any 10 W3).mono ?_
      rintro e w4 ⟨rfl,hb4⟩;have R4:=hide (R3.out.below hb4);have K4:=hide (K3.out.trans (.below R3.out.lt hb4));have X4:=hide (blk_below X3.out hb4 (blk_lt X3.out));clear hb4 R3 K3 X3
      go_wp2_with fail
      refine (allBut_any (Pure.onlyB 10) w4).mono ?_
      rintro e w5 ⟨rfl,hb5⟩;have R5:=hide (R4.out.below hb5);have K5:=hide (K4.out.trans (.below R4.out.lt hb5));have X5:=hide (blk_below X4.out hb5 (blk_lt X4.out));clear hb5 R4 K4 X4
      go_wp2_with fail
      refine (one_any B g (i+1) s ps d vp qs (Pure.notB (Pure.onlyB 10)) w5 R5.out (by omega)).mono ?_
      intro e w6 hq;obtain⟨c,af,mf,cf,al,nl,cl,vp6,qs6,rfl,pm6,k6,r6,PP⟩:=hq.retP (.any HB.out.symm);have X6:=k6.blk X5.out (by decide) (by decide);obtain⟨ld,FIN⟩:=RetP.yes (nf:=.atom) PP r6 pm6 X6 lr_ (K5.out.trans k6) BL;have FIN:=hide FIN;clear hq pm6 k6 r6 PP;have z0:=bc_ 0 X6 rfl;have z1:=bc_ 1 X6 rfl;have z2:=bc_ 2 X6 rfl;have f0:=blk_frozen X6 0;have f1:=blk_frozen X6 1;have f2:=blk_frozen X6 2;clear X6;go_wp2;exact bodyPost_ret (by simp [results,Tryz.results161,asAddr,Result.andThen,ld]) rfl FIN.out
     ·have e46:(b == 46)=false:=by simpa using h46
      have PP:Hid (Pure.P s .atom i (i+1) (.pl (Pure.onlyB b)) false):=by
       have e:=HB.out;subst e;exact .chr BEG.out N92.out h40 h91 h46
      clear h40 h91 h46
      go_wp2_with fail
      clear c1 f1;generalize w2.setCell ⟨g,1,none⟩ (.int .i64 ((i:Int)+1))=W3 at *;refine (only_any b W3).mono ?_
      rintro e w5 ⟨rfl,hb5⟩;have R5:=hide (R3.out.below hb5);have K5:=hide (K3.out.trans (.below R3.out.lt hb5));have X5:=hide (blk_below X3.out hb5 (blk_lt X3.out));clear hb5 R3 K3 X3
      go_wp2_with fail
      refine (one_any B g (i+1) s ps d vp qs (Pure.onlyB b) w5 R5.out (by omega)).mono ?_
      intro e w6 hq;obtain⟨c,af,mf,cf,al,nl,cl,vp6,qs6,rfl,pm6,k6,r6,PP2⟩:=hq.retP PP.out;have X6:=k6.blk X5.out (by decide) (by decide);obtain⟨ld,FIN⟩:=RetP.yes (nf:=.atom) PP2 r6 pm6 X6 lr_ (K5.out.trans k6) BL;have FIN:=hide FIN;clear hq pm6 k6 r6 PP2;have z0:=bc_ 0 X6 rfl;have z1:=bc_ 1 X6 rfl;have z2:=bc_ 2 X6 rfl;have f0:=blk_frozen X6 0;have f1:=blk_frozen X6 1;have f2:=blk_frozen X6 2;clear X6;go_wp2;exact bodyPost_ret (by simp [results,Tryz.results161,asAddr,Result.andThen,ld]) rfl FIN.out
 ·rw [decide_eq_false hbeg]
  have PP:Hid (Pure.PF s .atom i i):=.none (by rw [←HB.out];exact hbeg);clear hbeg;obtain⟨ld,FIN⟩:=RetP.no (nt:=.atom) (d:=d) (ps:=ps) PP.out R2.out OK.out ⟨lr_,hl⟩ X2.out lr_ K2.out BL;have FIN:=hide FIN;have z0:=bc_ 0 X2.out rfl;have z1:=bc_ 1 X2.out rfl;have z2:=bc_ 2 X2.out rfl;have f0:=blk_frozen X2.out 0;have f1:=blk_frozen X2.out 1;have f2:=blk_frozen X2.out 2;go_wp2;exact bodyPost_ret (by simp [results,Tryz.results161,asAddr,Result.andThen,ld]) rfl FIN.out
end Go.Proofs.YtmccnmgaoppogaaGreat
