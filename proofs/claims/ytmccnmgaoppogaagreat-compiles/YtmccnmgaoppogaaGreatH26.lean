/-
 The walks: the document's machine. (weirref)
-/
import Derived.Test.YtmccnmgaoppogaaGreatH25
namespace Go.Proofs.YtmccnmgaoppogaaGreat
set_option maxRecDepth 100000
set_option maxHeartbeats 8000000
open Go.RowKit
theorem machine_any (B g i0:Nat) (s:ByteArray) (ls:List Pure.Ln) (ns:List Pure.Nd) (dls:List DLn) (vn:Value) (al:Option Addr) (cl:Nat) (modes down:Int) (hn:ns.length≤100000) (hp:0<ns.length) (hll:ls.length≤1000) (mode:Int) (w:World) (hd:Dr B g s i0 ns vn (.slice al dls.length cl) modes down w) (hL:w.ownsRow B 101 5 (.slice al dls.length cl) dls.length (dlC dls)) (hA:Pure.AD ls ⟨ns,dls,modes,down⟩) :
  Calls Tryz.prog 65 #[.pointer (some ⟨g,0,none⟩),.int .i64 mode] w (RetMach (Pure.machS ls ns mode) ns.length w):=by
 obtain⟨il,hil,hl0,hl1,hl2⟩:=info_parts bls_info
 have hmk:=make_bool ns.length hn
 obtain⟨an,cn,rfl,_,_⟩:=own_fm hd.own
 have HD:=hide hd
 have HL:=hide hL
 have HA:=hide hA
 have b1:Below w.heap.size w (w.alloc (.cells #[.slice none 0 0,.slice none 0 0,.slice none 0 0] 163)):=bn_ _
 have c1:=bc_ 1 (hd.below b1).rb rfl
 have G0:Hid (GP w g w.heap.size (w.heap.size+1) ns.length (.slice none 0 0) [] ((w.alloc (.cells #[.slice none 0 0,.slice none 0 0,.slice none 0 0] 163)).alloc (.cells #[.pointer (some ⟨g,0,none⟩),.slice none 0 0] 202))):=by
  have h1:=heap_alloc_new w (.cells #[.slice none 0 0,.slice none 0 0,.slice none 0 0] 163);have h2:=heap_alloc_new (w.alloc (.cells #[.slice none 0 0,.slice none 0 0,.slice none 0 0] 163)) (.cells #[.pointer (some ⟨g,0,none⟩),.slice none 0 0] 202);rw [World.size_alloc] at h2;exact⟨h2,own_nil _ _ _ _,fun g' hg=>by simp at hg,List.nodup_nil,b1.alloc (by simp) _,by omega,blk_alloc h1 _,lr_,fun g' hg=>by simp at hg⟩
 clear hd b1 hL hA
 go_enter Tryz.func65,Tryz.ntmps65
 go_wp2_with fail
 clear c1
 go_loopg [7] ns.length (fun gk iv wx=>∃(i:Nat) (gs:List Nat) (vf:Value),i≤ns.length∧gk=ns.length-i∧iv=.int .i64 i∧gs.length=i∧GP w g w.heap.size (w.heap.size+1) ns.length vf gs wx)
 case atStart=>exact⟨0,[],_,Nat.zero_le _,rfl,rfl,rfl,G0.out⟩
 case round=>
  clear G0;obtain⟨i,gs,vf,il',rfl,rfl,rfl,hG⟩:=hrel;have HG:=hide hG;by_cases hi:gs.length<ns.length
  ·have d1:=dl_ (gs.length:Int) (ns.length:Int) (by omega)
   have wi:IntKind.i64.wrap ((gs.length:Int)+1)=(gs.length:Int)+1:=wrap_in _ (by omega) (by omega);have G2:=hide (hG.below (rowW_below wr ns.length));have NEWS:Hid (∀j u,[Value.slice (some ⟨wr.heap.size,0,none⟩) ns.length ns.length][j]?=some u→(rowW wr ns.length).cell? ((⟨(wr.alloc (.cells (bln ns.length (fun _=>false)).toArray 4)).heap.size,0,none⟩:Addr).add j)=some u):=World.news_of_block (cs:=#[.slice (some ⟨wr.heap.size,0,none⟩) ns.length ns.length]) (t:=203) (fr:=(0,0)) (rowW_new _ _)
   have NEWS2:Hid (∀j u,[Value.slice (some ⟨wr.heap.size,0,none⟩) ns.length ns.length][j]?=some u→(rowW wr ns.length).cell? ((⟨wr.heap.size+1,0,none⟩:Addr).add j)=some u):=by
    have:=NEWS.out;rw [World.size_alloc] at this;exact this
   have c1m:=bc_ 1 (blk_alloc hG.b (.cells (bln ns.length (fun _=>false)).toArray 4)) rfl;have BLE:Hid (w.heap.size≤(rowW wr ns.length).heap.size):=Nat.le_trans hG.be.size (rowW_below _ _).size;have c1:=bc_ 1 hG.b rfl;have c1':=bc_ 1 G2.out.b rfl;clear hG
   go_wp2_with fail
   refine wp_region_held_drew (S:=fun _=>True) (by kernel_rfl) trivial (fun hHeld=>?_);refine wpAnyH_take (i:=0) (v:=?vp0) rfl (by kernel_rfl) (by kernel_rfl) (by kernel_rfl) (fun _ _ _ h=>h) (Or.inl ⟨by rfl,?hyp0⟩) (by assumption) ?restp0
   case hyp0=>(intro w hSw;(try dsimp only at hSw);go_simp;try (with_reducible rfl))
   try simp only [List.getElem_toArray,List.getElem_cons_zero,Act.put,List.setIfInBounds_toArray,List.set_cons_zero,List.set_cons_succ]
   refine wpAnyH_take (i:=1) (v:=?vp1) rfl (by kernel_rfl) (by kernel_rfl) (by kernel_rfl) (fun _ _ _ h=>h) (Or.inl ⟨by rfl,?hyp1⟩) (by assumption) ?restp1
   case hyp1=>(intro w hSw;(try dsimp only at hSw);go_simp;try (with_reducible rfl))
   try simp only [tk_,Act.put]
   refine wpAnyH_take (i:=2) (v:=?vp2) rfl (by kernel_rfl) (by kernel_rfl) (by kernel_rfl) (fun _ _ _ h=>h) (Or.inl ⟨by rfl,?hyp2⟩) (by assumption) ?restp2
   case hyp2=>(intro w hSw;(try dsimp only at hSw);go_simp;try (with_reducible rfl))
   try simp only [tk_,Act.put]
   refine wpAnyH_take (i:=3) (v:=?vp3) rfl (by kernel_rfl) (by kernel_rfl) (by kernel_rfl) (fun _ _ _ h=>h) (Or.inl ⟨by rfl,?hyp3⟩) (by assumption) ?restp3
   case hyp3=>(intro w hSw;(try dsimp only at hSw);go_simp;try (with_reducible rfl))
   try simp only [tk_,Act.put]
   refine wpAnyH_take (i:=5) (v:=?vp5) rfl (by kernel_rfl) (by kernel_rfl) (by kernel_rfl) (fun _ _ _ h=>h) (Or.inl ⟨by rfl,?hyp5⟩) (by assumption) ?restp5
   case hyp5=>(intro w hSw;(try dsimp only at hSw);go_simp;try (with_reducible rfl))
   try simp only [tk_,Act.put]
   refine wpAnyH_ready (rs:=[4,6]) (by kernel_rfl) (by simp) ?_
   refine AllReadyH.cons rfl (fun K hK=>?_) (AllReadyH.cons rfl (fun K hK=>?_) AllReadyH.nil)
   ·go_simp
    refine hK.out _ _ trivial (fun hHeld=>?_);clear hK K
    try simp only [tk_,Act.put]
    refine wpAnyH_ready (rs:=[6]) (by kernel_rfl) (by simp) ?_
    refine AllReadyH.cons rfl (fun K hK=>?_) AllReadyH.nil
    go_simp
    refine hK.out _ _ trivial (fun hHeld=>?_);clear hK K
    try simp only [tk_,Act.put]
    refine wpAnyH_ready (rs:=[7]) (by kernel_rfl) (by simp) ?_
    refine AllReadyH.cons rfl (fun K hK=>?_) AllReadyH.nil;refine wp_buildSlice1 102 203 0 (.tmp 42) (.slice (some ⟨wr.heap.size,0,none⟩) ns.length ns.length) rfl rfl #[.slice (some ⟨wr.heap.size,0,none⟩) ns.length ns.length] il _ 1 Tryz.underlying102 hil hl0 hl1 (by omega) (by omega) (sl_fill _ _ _) ?_
    refine hK.out _ _ trivial (fun hHeld=>?_);clear hK K
    try simp only [tk_,Act.put]
    refine wpAnyH_ready (rs:=[8]) (by kernel_rfl) (by simp) ?_
    refine AllReadyH.cons rfl (fun K hK=>?_) AllReadyH.nil;refine step_append_lies _ (by rfl) _ _ _ (by rfl) w.heap.size 203 il _ 1 24 Tryz.underlying102 hil hl0 hl1 hl2 rfl (by omega) vf gs.length (blsC ns.length gs) (by rfl) G2.out.own ⟨(wr.alloc (.cells (bln ns.length (fun _=>false)).toArray 4)).heap.size,0,none⟩ 1 1 [.slice (some ⟨wr.heap.size,0,none⟩) ns.length ns.length] (by rfl) rfl NEWS.out (fun u hu=>by simp at hu;subst hu;rfl) (by omega) (by unfold maxLen;omega) (by omega) BLE.out (wr.heap.size+1+1) (by simp) ?_
    intro g2 cap2 w2 hown2 hgrow2 hat2 hlt2;clear hat2 hlt2;refine hK.out _ _ trivial (fun hHeld=>?_);clear hK K;have mb2:=row_far G2.out.own G2.out.b (by decide) hgrow2;have k1:=bc_ 1 mb2 rfl;have f1':=blk_frozen mb2 1
    try simp only [tk_,Act.put]
    refine wpAnyH_take (i:=9) (v:=?vpa9) rfl (by kernel_rfl) (by kernel_rfl) (by kernel_rfl) (fun _ _ _ h=>h) (Or.inl ⟨by rfl,?hypa9⟩) (by assumption) ?restpa9
    case hypa9=>(intro w hSw;(try dsimp only at hSw);go_simp;try (with_reducible rfl))
    try simp only [tk_,Act.put]
    refine wpAnyH_take (i:=10) (v:=?vpa10) rfl (by kernel_rfl) (by kernel_rfl) (by kernel_rfl) (fun _ _ _ h=>h) (Or.inl ⟨by rfl,?hypa10⟩) (by assumption) ?restpa10
    case hypa10=>(intro w hSw;(try dsimp only at hSw);go_simp;try (with_reducible rfl))
    try simp only [tk_,Act.put]
    refine wpAnyH_ready (rs:=[11]) (by kernel_rfl) (by simp) ?_
    refine AllReadyH.cons rfl (fun K hK=>?_) AllReadyH.nil
    go_simp
    refine hK.out _ _ trivial (fun hHeld=>?_);clear hK K;refine wpAnyH_done (by kernel_rfl) ?_ _;have G3:=hide (GP.add HG.out hown2 hgrow2);clear hHeld mb2 k1 f1' hown2 hgrow2;go_wp2;go_roundg (ns.length-(gs.length+1))
    case measure=>omega
    case rel=>exact⟨gs.length+1,gs++[wr.heap.size],_,by omega,rfl,by go_num,by simp,G3.out⟩
   ·go_simp
    refine hK.out _ _ trivial (fun hHeld=>?_);clear hK K
    try simp only [tk_,Act.put]
    refine wpAnyH_ready (rs:=[4,7]) (by kernel_rfl) (by simp) ?_
    refine AllReadyH.cons rfl (fun K hK=>?_) (AllReadyH.cons rfl (fun K hK=>?_) AllReadyH.nil)
    ·go_simp
     refine hK.out _ _ trivial (fun hHeld=>?_);clear hK K
     try simp only [tk_,Act.put]
     refine wpAnyH_ready (rs:=[7]) (by kernel_rfl) (by simp) ?_
     refine AllReadyH.cons rfl (fun K hK=>?_) AllReadyH.nil;refine wp_buildSlice1 102 203 0 (.tmp 42) (.slice (some ⟨wr.heap.size,0,none⟩) ns.length ns.length) rfl rfl #[.slice (some ⟨wr.heap.size,0,none⟩) ns.length ns.length] il _ 1 Tryz.underlying102 hil hl0 hl1 (by omega) (by omega) (sl_fill _ _ _) ?_
     refine hK.out _ _ trivial (fun hHeld=>?_);clear hK K
     try simp only [tk_,Act.put]
     refine wpAnyH_ready (rs:=[8]) (by kernel_rfl) (by simp) ?_
     refine AllReadyH.cons rfl (fun K hK=>?_) AllReadyH.nil;refine step_append_lies _ (by rfl) _ _ _ (by rfl) w.heap.size 203 il _ 1 24 Tryz.underlying102 hil hl0 hl1 hl2 rfl (by omega) vf gs.length (blsC ns.length gs) (by rfl) G2.out.own ⟨(wr.alloc (.cells (bln ns.length (fun _=>false)).toArray 4)).heap.size,0,none⟩ 1 1 [.slice (some ⟨wr.heap.size,0,none⟩) ns.length ns.length] (by rfl) rfl NEWS.out (fun u hu=>by simp at hu;subst hu;rfl) (by omega) (by unfold maxLen;omega) (by omega) BLE.out (wr.heap.size+1+1) (by simp) ?_
     intro g2 cap2 w2 hown2 hgrow2 hat2 hlt2;clear hat2 hlt2;refine hK.out _ _ trivial (fun hHeld=>?_);clear hK K;have mb2:=row_far G2.out.own G2.out.b (by decide) hgrow2;have k1:=bc_ 1 mb2 rfl;have f1':=blk_frozen mb2 1
     try simp only [tk_,Act.put]
     refine wpAnyH_take (i:=9) (v:=?vpb9) rfl (by kernel_rfl) (by kernel_rfl) (by kernel_rfl) (fun _ _ _ h=>h) (Or.inl ⟨by rfl,?hypb9⟩) (by assumption) ?restpb9
     case hypb9=>(intro w hSw;(try dsimp only at hSw);go_simp;try (with_reducible rfl))
     try simp only [tk_,Act.put]
     refine wpAnyH_take (i:=10) (v:=?vpb10) rfl (by kernel_rfl) (by kernel_rfl) (by kernel_rfl) (fun _ _ _ h=>h) (Or.inl ⟨by rfl,?hypb10⟩) (by assumption) ?restpb10
     case hypb10=>(intro w hSw;(try dsimp only at hSw);go_simp;try (with_reducible rfl))
     try simp only [tk_,Act.put]
     refine wpAnyH_ready (rs:=[11]) (by kernel_rfl) (by simp) ?_
     refine AllReadyH.cons rfl (fun K hK=>?_) AllReadyH.nil
     go_simp
     refine hK.out _ _ trivial (fun hHeld=>?_);clear hK K;refine wpAnyH_done (by kernel_rfl) ?_ _;have G3:=hide (GP.add HG.out hown2 hgrow2);clear hHeld mb2 k1 f1' hown2 hgrow2;go_wp2;go_roundg (ns.length-(gs.length+1))
     case measure=>omega
     case rel=>exact⟨gs.length+1,gs++[wr.heap.size],_,by omega,rfl,by go_num,by simp,G3.out⟩
    ·refine wp_buildSlice1 102 203 0 (.tmp 42) (.slice (some ⟨wr.heap.size,0,none⟩) ns.length ns.length) rfl rfl #[.slice (some ⟨wr.heap.size,0,none⟩) ns.length ns.length] il _ 1 Tryz.underlying102 hil hl0 hl1 (by omega) (by omega) (sl_fill _ _ _) ?_
     refine hK.out _ _ trivial (fun hHeld=>?_);clear hK K
     try simp only [tk_,Act.put]
     refine wpAnyH_ready (rs:=[4]) (by kernel_rfl) (by simp) ?_
     refine AllReadyH.cons rfl (fun K hK=>?_) AllReadyH.nil
     go_simp
     refine hK.out _ _ trivial (fun hHeld=>?_);clear hK K
     try simp only [tk_,Act.put]
     refine wpAnyH_ready (rs:=[8]) (by kernel_rfl) (by simp) ?_
     refine AllReadyH.cons rfl (fun K hK=>?_) AllReadyH.nil;refine step_append_lies _ (by rfl) _ _ _ (by rfl) w.heap.size 203 il _ 1 24 Tryz.underlying102 hil hl0 hl1 hl2 rfl (by omega) vf gs.length (blsC ns.length gs) (by rfl) G2.out.own ⟨wr.heap.size+1,0,none⟩ 1 1 [.slice (some ⟨wr.heap.size,0,none⟩) ns.length ns.length] (by rfl) rfl NEWS2.out (fun u hu=>by simp at hu;subst hu;rfl) (by omega) (by unfold maxLen;omega) (by omega) BLE.out (wr.heap.size+1+1) (by simp) ?_
     intro g2 cap2 w2 hown2 hgrow2 hat2 hlt2;clear hat2 hlt2;refine hK.out _ _ trivial (fun hHeld=>?_);clear hK K;have mb2:=row_far G2.out.own G2.out.b (by decide) hgrow2;have k1:=bc_ 1 mb2 rfl;have f1':=blk_frozen mb2 1
     try simp only [tk_,Act.put]
     refine wpAnyH_take (i:=9) (v:=?vpc9) rfl (by kernel_rfl) (by kernel_rfl) (by kernel_rfl) (fun _ _ _ h=>h) (Or.inl ⟨by rfl,?hypc9⟩) (by assumption) ?restpc9
     case hypc9=>(intro w hSw;(try dsimp only at hSw);go_simp;try (with_reducible rfl))
     try simp only [tk_,Act.put]
     refine wpAnyH_take (i:=10) (v:=?vpc10) rfl (by kernel_rfl) (by kernel_rfl) (by kernel_rfl) (fun _ _ _ h=>h) (Or.inl ⟨by rfl,?hypc10⟩) (by assumption) ?restpc10
     case hypc10=>(intro w hSw;(try dsimp only at hSw);go_simp;try (with_reducible rfl))
     try simp only [tk_,Act.put]
     refine wpAnyH_ready (rs:=[11]) (by kernel_rfl) (by simp) ?_
     refine AllReadyH.cons rfl (fun K hK=>?_) AllReadyH.nil
     go_simp
     refine hK.out _ _ trivial (fun hHeld=>?_);clear hK K;refine wpAnyH_done (by kernel_rfl) ?_ _;have G3:=hide (GP.add HG.out hown2 hgrow2);clear hHeld mb2 k1 f1' hown2 hgrow2;go_wp2;go_roundg (ns.length-(gs.length+1))
     case measure=>omega
     case rel=>exact⟨gs.length+1,gs++[wr.heap.size],_,by omega,rfl,by go_num,by simp,G3.out⟩
  ·have d1:=df_ (gs.length:Int) (ns.length:Int) (by omega)
   have EL:Hid (gs.length=ns.length):=by show _=_;omega
   have HDL:Hid (dls.length=ls.length):=HA.out.n;have hms:=make_sl dls.length (by have:=HDL.out;omega);obtain⟨gf,capf,evf,_,_⟩:=own_some hG.own (by omega);have b1:Below wr.heap.size wr (wr.alloc (.cells (bln ns.length (fun _=>false)).toArray 4)):=bn_ _;have b2:Below wr.heap.size wr ((wr.alloc (.cells (bln ns.length (fun _=>false)).toArray 4)).alloc (.cells (Array.replicate dls.length (.slice none 0 0)) 203)):=b1.alloc (by simp) _;have c2:=bc_ 2 ((HD.out.below hG.be).below b1).rb rfl;have c2':=bc_ 2 ((HD.out.below hG.be).below b2).rb rfl
   have M0:Hid (ML w ls mode g w.heap.size (w.heap.size+1) gf capf ns.length (wr.heap.size+1) wr.heap.size 0 wr.heap.size gs (List.replicate dls.length (.slice none 0 0)) ((wr.alloc (.cells (bln ns.length (fun _=>false)).toArray 4)).alloc (.cells (Array.replicate dls.length (.slice none 0 0)) 203))):=by
    have G1:=hG.below b2;have h1:=heap_alloc_new wr (.cells (bln ns.length (fun _=>false)).toArray 4);have h2:=heap_alloc_new (wr.alloc (.cells (bln ns.length (fun _=>false)).toArray 4)) (.cells (Array.replicate dls.length (.slice none 0 0)) 203);rw [World.size_alloc] at h2;have ow:=G1.own;have gb:=G1.b;rw [evf,EL.out] at ow gb;have upg:∀g'∈gs,g'<wr.heap.size:=fun g' hg=>blk_lt (hG.row g' hg)
    have evl:gf<wr.heap.size:=by
     have:=(World.ownsRow.lt hG.own gf (by rw [evf];rfl)).2;exact this
    refine⟨G1.be,⟨gb,own_mono ow (Nat.zero_le _),EL.out,fun j g' hj=>(G1.row g' (List.mem_of_getElem? hj)).congr (fun _ _=>rfl),G1.nd⟩,?_,h2,by rw [List.length_replicate];exact HDL.out,fun j x hj=>⟨.slice none 0 0,?_,fun c=>absurd c.1 (Nat.not_lt_zero _),fun _=>rfl⟩,G1.r0,G1.rl,upg,lr_,by omega,hG.be.size,fun g' hg=>?_,evl⟩
    ·exact Bl.congr (f:=fun _=>false) (blk_alloc h1 _) (fun _ _=>rfl)
    ·rw [List.getElem?_replicate_of_lt (by rw [HDL.out];exact Pure.get_lt hj)]
    ·exact hG.lo g' hg
   clear hG b1 b2 evf HG
   go_wp2_with fail
   clear c2 c2' hmk hms;generalize (wr.alloc (.cells (bln ns.length (fun _=>false)).toArray 4)).alloc (.cells (Array.replicate dls.length (.slice none 0 0)) 203)=W2 at *;generalize wr.heap.size=B1 at *
   go_loopg [8,10,11] ls.length (fun gk fv iv _ wx=>∃(i gF:Nat) (lst:List Value),i≤ls.length∧gk=ls.length-i∧fv=rowV gF ns.length∧iv=.int .i64 i∧ML w ls mode g w.heap.size (w.heap.size+1) gf capf ns.length (B1+1) B1 i gF gs lst wx)
   case atStart=>exact⟨0,B1,_,Nat.zero_le _,rfl,rfl,rfl,M0.out⟩
   case round=>
    clear M0;obtain⟨i,gF,lst,il2,rfl,rfl,rfl,hM⟩:=hrel;have c2:=bc_ 2 (HD.out.below hM.be).rb rfl;by_cases hi:i<ls.length
    ·have d2:decide ((i:Int)<(dls.length:Int))=true:=decide_eq_true (by have:=HDL.out;omega)
     have wi:=wr_ (i:Int) (by omega) (by omega);have ii0:=nz_ i;have ii1:(i:Int)<(dls.length:Int):=by have:=HDL.out;omega
     have ii2:(i:Int)<(ls.length:Int):=by omega
     obtain⟨x,hx⟩:=gx_ ls i hi;have hdx:=HA.out.get i x hx;have hL2:=own_below HL.out hM.be lr_;obtain⟨gv,cv,ev,_,_⟩:=own_some hL2 (by have:=HDL.out;omega);cases ev;have q0:wr.cell? ⟨gv,i*5,none⟩=some (.int .i64 x.mode):=own_cell hL2 (dlC_get hdx (j:=0) (by omega));have q4:wr.cell? ⟨gv,i*5+4,none⟩=some (.int .i64 ((Pure.nbase (ls.take i)+x.re.size-1:Nat):Int)):=own_cell hL2 (dlC_get hdx (j:=4) (by omega));by_cases hm:x.mode=mode
     ·have dm:decide (x.mode=mode)=true:=decide_eq_true hm
      have CALL:=hide (marked_any B g i0 s ns (.slice an ns.length cn) (.slice (some ⟨gv,0,none⟩) dls.length cl) modes down hn (w.heap.size+1) gf capf gs x.re (Pure.nbase (ls.take i)) (Pure.foG ls mode i) wr (HD.out.below hM.be) hM.gf' (HA.out.net.at' i x hx));have HM:=hide hM;have HX:=hide hx;clear hdx hL2 hM hx
      go_wp2_with fail
      refine CALL.out.mono ?_
      clear CALL c2 q0 q4;rintro e w3 ⟨ga,gb,rfl,hk,hf,la,lb,ba,bb⟩;have L1:Hid (B1≤wr.heap.size):=by have:=blk_lt HM.out.la;have:=HM.out.lo;show _≤_;omega
      have hbw:=mkW_below w3 x.re.empt (rowV ga ns.length) (rowV gb ns.length)
      have FI:Hid (Bl (mkW w3 x.re.empt (rowV ga ns.length) (rowV gb ns.length)) gF ns.length (Pure.fiG ls mode i)):=by
       have h1:=hk.blk HM.out.fi (fun e=>by have:=HM.out.up _ e;have:=HM.out.fl;omega);exact blk_below h1 hbw (blk_lt h1)
      have BA:Hid (Bl (mkW w3 x.re.empt (rowV ga ns.length) (rowV gb ns.length)) ga ns.length (Pure.fiN x.re (Pure.nbase (ls.take i)))):=blk_below ba hbw (blk_lt ba);have KM:=hide (mkW_blk w3 x.re.empt (rowV ga ns.length) (rowV gb ns.length));have BW:=hide hbw;have NEXT:=hide (fun gF' W2 (hb:Below w3.heap.size w3 W2) h1 h2 h3=>HM.out.marked hk hf HX.out hm (fun _ _=>rfl) (gF':=gF') hb h1 h2 h3 (show B1≤gb by have:=L1.out;omega));have BB:=hide bb;have SZ:Hid (wr.heap.size≤w3.heap.size):=hk.size;have LAX:Hid (Blk w3 (B1+1) 203 lst):=hk.blk HM.out.la (fun e=>by have:=HM.out.up _ e;omega);have LLN:Hid (lst.length=dls.length):=by rw [HDL.out];exact HM.out.ll
      clear hk hf la lb ba bb HM hbw;go_upto_region 14 with (fail);rw [show w3.alloc (.cells #[.bool x.re.empt,rowV ga ns.length,rowV gb ns.length] 205)=mkW w3 x.re.empt (rowV ga ns.length) (rowV gb ns.length) from rfl];generalize mkW w3 x.re.empt (rowV ga ns.length) (rowV gb ns.length)=W4 at *;have m1:=bc_ 1 KM.out rfl
      go_wp2_with fail
      refine (both_any ns.length gF ga (Pure.fiG ls mode i) (Pure.fiN x.re (Pure.nbase (ls.take i))) W4 FI.out BA.out hn).mono ?_
      clear m1;rintro e w5 ⟨gF',rfl,hb5,l5,b5⟩;have BT:Hid (Below w3.heap.size w3 w5):=BW.out.trans (hb5.mono BW.out.size);have M5:=hide (NEXT.out gF' w5 BT.out b5 (by have:=L1.out;have:=SZ.out;have:=BW.out.size;omega) (blk_below BB.out BT.out (blk_lt BB.out)));have K5:=hide (blk_below KM.out hb5 (blk_lt KM.out));have A5:=hide (blk_below LAX.out BT.out (blk_lt LAX.out));have m2:=bc_ 2 K5.out rfl;obtain⟨u,hu⟩:∃u,lst[i]?=some u:=⟨_,List.getElem?_eq_getElem (by rw [LLN.out];omega)⟩;have a5:=blk_cell A5.out hu;have f5:=blk_frozen A5.out i;clear hb5 l5 b5 NEXT FI BA KM BW BB SZ LAX BT hu;go_wp2;go_roundg (ls.length-(i+1))
      case measure=>omega
      case rel=>exact⟨i+1,gF',_,by omega,rfl,rfl,by go_num,M5.out⟩
     ·have dm:decide (x.mode=mode)=false:=decide_eq_false hm
      have M2:=hide (hM.skip hx hm);clear hdx hL2 hM hx;go_wp2;go_roundg (ls.length-(i+1))
      case measure=>omega
      case rel=>exact⟨i+1,gF,lst,by omega,rfl,rfl,by go_num,M2.out⟩
    ·have d2:decide ((i:Int)<(dls.length:Int))=false:=decide_eq_false (by have:=HDL.out;omega)
     have hi2:¬i<dls.length:=by have:=HDL.out;omega
     have e:i=ls.length:=by omega
     have CALL:=hide (bytesOf_any B g i0 s ns (.slice an ns.length cn) (.slice al dls.length cl) modes down hn wr (HD.out.below hM.be));rw [e] at hM;have HM:=hide hM;clear hM e
     go_wp2_with fail
     refine CALL.out.mono ?_
     clear CALL c2;rintro e w3 ⟨vk,rfl,hb3,ok3⟩;have M3:=hide (HM.out.below hb3);have OK3:=hide (own_mono ok3 (Nat.zero_le _))
     have Z3:Hid (MS w3 ns.length w3.heap.size (.slice none 0 0) (.slice none 0 0) (.slice none 0 0) [] [] [] [] (w3.alloc (.cells #[.slice none 0 0,.slice none 0 0,.slice none 0 0] 163))):=
      ⟨bn_ _,heap_alloc_new _ _,⟨own_nil _ _ _ _,rfl,fun i g f h1 h2=>by simp at h1⟩,own_nil _ _ _ _,own_nil _ _ _ _,lr_⟩
     clear HM hb3 ok3;go_upto_region 18 with (fail);generalize w3.alloc (.cells #[.slice none 0 0,.slice none 0 0,.slice none 0 0] 163)=W4 at *
     go_cut [] from 14 (fun wx=>∃v2 gN,MS w3 ns.length w3.heap.size v2 (.slice none 0 0) (.slice none 0 0) [gN] [fun _=>false] [] [] wx)
     case first=>
      have hmk:=make_bool ns.length hn;have G2:=hide (Z3.out.below (rowW_below W4 ns.length));have NEWS:Hid (∀j u,[Value.slice (some ⟨W4.heap.size,0,none⟩) ns.length ns.length][j]?=some u→(rowW W4 ns.length).cell? ((⟨(W4.alloc (.cells (bln ns.length (fun _=>false)).toArray 4)).heap.size,0,none⟩:Addr).add j)=some u):=World.news_of_block (cs:=#[.slice (some ⟨W4.heap.size,0,none⟩) ns.length ns.length]) (t:=203) (fr:=(0,0)) (rowW_new _ _)
      have NEWS2:Hid (∀j u,[Value.slice (some ⟨W4.heap.size,0,none⟩) ns.length ns.length][j]?=some u→(rowW W4 ns.length).cell? ((⟨W4.heap.size+1,0,none⟩:Addr).add j)=some u):=by
       have:=NEWS.out;rw [World.size_alloc] at this;exact this
      have c0:=bc_ 0 Z3.out.b rfl;have c0m:=bc_ 0 (blk_alloc Z3.out.b (.cells (bln ns.length (fun _=>false)).toArray 4)) rfl;have c0':=bc_ 0 G2.out.b rfl;have BLE:Hid (w3.heap.size≤(rowW W4 ns.length).heap.size):=Nat.le_trans Z3.out.be.size (rowW_below _ _).size;clear Z3 M3 OK3;refine wp_region_held_drew (S:=fun _=>True) (by kernel_rfl) trivial (fun hHeld=>?_);refine wpAnyH_take (i:=0) (v:=?vq0) rfl (by kernel_rfl) (by kernel_rfl) (by kernel_rfl) (fun _ _ _ h=>h) (Or.inl ⟨by rfl,?hyq0⟩) (by assumption) ?restq0
      case hyq0=>(intro w hSw;(try dsimp only at hSw);go_simp;try (with_reducible rfl))
      try simp only [List.getElem_toArray,List.getElem_cons_zero,Act.put,List.setIfInBounds_toArray,List.set_cons_zero,List.set_cons_succ]
      refine wpAnyH_take (i:=2) (v:=?vq2) rfl (by kernel_rfl) (by kernel_rfl) (by kernel_rfl) (fun _ _ _ h=>h) (Or.inl ⟨by rfl,?hyq2⟩) (by assumption) ?restq2
      case hyq2=>(intro w hSw;(try dsimp only at hSw);go_simp;try (with_reducible rfl))
      try simp only [tk_,Act.put]
      refine wpAnyH_ready (rs:=[1,3]) (by kernel_rfl) (by simp) ?_
      refine AllReadyH.cons rfl (fun K hK=>?_) (AllReadyH.cons rfl (fun K hK=>?_) AllReadyH.nil)
      ·go_simp
       refine hK.out _ _ trivial (fun hHeld=>?_);clear hK K
       try simp only [tk_,Act.put]
       refine wpAnyH_ready (rs:=[3]) (by kernel_rfl) (by simp) ?_
       refine AllReadyH.cons rfl (fun K hK=>?_) AllReadyH.nil
       go_simp
       refine hK.out _ _ trivial (fun hHeld=>?_);clear hK K
       try simp only [tk_,Act.put]
       refine wpAnyH_ready (rs:=[4]) (by kernel_rfl) (by simp) ?_
       refine AllReadyH.cons rfl (fun K hK=>?_) AllReadyH.nil;refine wp_buildSlice1 102 203 0 (.tmp 98) (.slice (some ⟨W4.heap.size,0,none⟩) ns.length ns.length) rfl rfl #[.slice (some ⟨W4.heap.size,0,none⟩) ns.length ns.length] il _ 1 Tryz.underlying102 hil hl0 hl1 (by omega) (by omega) (sl_fill _ _ _) ?_
       refine hK.out _ _ trivial (fun hHeld=>?_);clear hK K
       try simp only [tk_,Act.put]
       refine wpAnyH_ready (rs:=[5]) (by kernel_rfl) (by simp) ?_
       refine AllReadyH.cons rfl (fun K hK=>?_) AllReadyH.nil;refine step_append_lies _ (by rfl) _ _ _ (by rfl) w3.heap.size 203 il _ 1 24 Tryz.underlying102 hil hl0 hl1 hl2 rfl (by omega) (.slice none 0 0) 0 [] (by rfl) G2.out.s.own ⟨(W4.alloc (.cells (bln ns.length (fun _=>false)).toArray 4)).heap.size,0,none⟩ 1 1 [.slice (some ⟨W4.heap.size,0,none⟩) ns.length ns.length] (by rfl) rfl NEWS.out (fun u hu=>by simp at hu;subst hu;rfl) (by omega) (by unfold maxLen;omega) (by omega) BLE.out (W4.heap.size+1+1) (by simp) ?_
       intro g2 cap2 w2 hown2 hgrow2 hat2 hlt2;clear hat2 hlt2;refine hK.out _ _ trivial (fun hHeld=>?_);clear hK K;have mb2:=row_far G2.out.s.own G2.out.b (by decide) hgrow2;have k1:=bc_ 0 mb2 rfl;have f1':=blk_frozen mb2 0
       try simp only [tk_,Act.put]
       refine wpAnyH_take (i:=6) (v:=?vqa6) rfl (by kernel_rfl) (by kernel_rfl) (by kernel_rfl) (fun _ _ _ h=>h) (Or.inl ⟨by rfl,?hyqa6⟩) (by assumption) ?restqa6
       case hyqa6=>(intro w hSw;(try dsimp only at hSw);go_simp;try (with_reducible rfl))
       try simp only [tk_,Act.put]
       refine wpAnyH_ready (rs:=[7]) (by kernel_rfl) (by simp) ?_
       refine AllReadyH.cons rfl (fun K hK=>?_) AllReadyH.nil
       go_simp
       refine hK.out _ _ trivial (fun hHeld=>?_);clear hK K;refine wpAnyH_done (by kernel_rfl) ?_ _;have G3:=hide (MS.addS G2.out (rowW_row W4 ns.length) hown2 hgrow2);clear hHeld mb2 k1 f1' hown2 hgrow2
       go_wp2_with fail
       go_meet
       case rel=>exact⟨_,_,G3.out⟩
      ·go_simp
       refine hK.out _ _ trivial (fun hHeld=>?_);clear hK K
       try simp only [tk_,Act.put]
       refine wpAnyH_ready (rs:=[1,4]) (by kernel_rfl) (by simp) ?_
       refine AllReadyH.cons rfl (fun K hK=>?_) (AllReadyH.cons rfl (fun K hK=>?_) AllReadyH.nil)
       ·go_simp
        refine hK.out _ _ trivial (fun hHeld=>?_);clear hK K
        try simp only [tk_,Act.put]
        refine wpAnyH_ready (rs:=[4]) (by kernel_rfl) (by simp) ?_
        refine AllReadyH.cons rfl (fun K hK=>?_) AllReadyH.nil;refine wp_buildSlice1 102 203 0 (.tmp 98) (.slice (some ⟨W4.heap.size,0,none⟩) ns.length ns.length) rfl rfl #[.slice (some ⟨W4.heap.size,0,none⟩) ns.length ns.length] il _ 1 Tryz.underlying102 hil hl0 hl1 (by omega) (by omega) (sl_fill _ _ _) ?_
        refine hK.out _ _ trivial (fun hHeld=>?_);clear hK K
        try simp only [tk_,Act.put]
        refine wpAnyH_ready (rs:=[5]) (by kernel_rfl) (by simp) ?_
        refine AllReadyH.cons rfl (fun K hK=>?_) AllReadyH.nil;refine step_append_lies _ (by rfl) _ _ _ (by rfl) w3.heap.size 203 il _ 1 24 Tryz.underlying102 hil hl0 hl1 hl2 rfl (by omega) (.slice none 0 0) 0 [] (by rfl) G2.out.s.own ⟨(W4.alloc (.cells (bln ns.length (fun _=>false)).toArray 4)).heap.size,0,none⟩ 1 1 [.slice (some ⟨W4.heap.size,0,none⟩) ns.length ns.length] (by rfl) rfl NEWS.out (fun u hu=>by simp at hu;subst hu;rfl) (by omega) (by unfold maxLen;omega) (by omega) BLE.out (W4.heap.size+1+1) (by simp) ?_
        intro g2 cap2 w2 hown2 hgrow2 hat2 hlt2;clear hat2 hlt2;refine hK.out _ _ trivial (fun hHeld=>?_);clear hK K;have mb2:=row_far G2.out.s.own G2.out.b (by decide) hgrow2;have k1:=bc_ 0 mb2 rfl;have f1':=blk_frozen mb2 0
        try simp only [tk_,Act.put]
        refine wpAnyH_take (i:=6) (v:=?vqb6) rfl (by kernel_rfl) (by kernel_rfl) (by kernel_rfl) (fun _ _ _ h=>h) (Or.inl ⟨by rfl,?hyqb6⟩) (by assumption) ?restqb6
        case hyqb6=>(intro w hSw;(try dsimp only at hSw);go_simp;try (with_reducible rfl))
        try simp only [tk_,Act.put]
        refine wpAnyH_ready (rs:=[7]) (by kernel_rfl) (by simp) ?_
        refine AllReadyH.cons rfl (fun K hK=>?_) AllReadyH.nil
        go_simp
        refine hK.out _ _ trivial (fun hHeld=>?_);clear hK K;refine wpAnyH_done (by kernel_rfl) ?_ _;have G3:=hide (MS.addS G2.out (rowW_row W4 ns.length) hown2 hgrow2);clear hHeld mb2 k1 f1' hown2 hgrow2
        go_wp2_with fail
        go_meet
        case rel=>exact⟨_,_,G3.out⟩
       ·refine wp_buildSlice1 102 203 0 (.tmp 98) (.slice (some ⟨W4.heap.size,0,none⟩) ns.length ns.length) rfl rfl #[.slice (some ⟨W4.heap.size,0,none⟩) ns.length ns.length] il _ 1 Tryz.underlying102 hil hl0 hl1 (by omega) (by omega) (sl_fill _ _ _) ?_
        refine hK.out _ _ trivial (fun hHeld=>?_);clear hK K
        try simp only [tk_,Act.put]
        refine wpAnyH_ready (rs:=[1]) (by kernel_rfl) (by simp) ?_
        refine AllReadyH.cons rfl (fun K hK=>?_) AllReadyH.nil
        go_simp
        refine hK.out _ _ trivial (fun hHeld=>?_);clear hK K
        try simp only [tk_,Act.put]
        refine wpAnyH_ready (rs:=[5]) (by kernel_rfl) (by simp) ?_
        refine AllReadyH.cons rfl (fun K hK=>?_) AllReadyH.nil;refine step_append_lies _ (by rfl) _ _ _ (by rfl) w3.heap.size 203 il _ 1 24 Tryz.underlying102 hil hl0 hl1 hl2 rfl (by omega) (.slice none 0 0) 0 [] (by rfl) G2.out.s.own ⟨W4.heap.size+1,0,none⟩ 1 1 [.slice (some ⟨W4.heap.size,0,none⟩) ns.length ns.length] (by rfl) rfl NEWS2.out (fun u hu=>by simp at hu;subst hu;rfl) (by omega) (by unfold maxLen;omega) (by omega) BLE.out (W4.heap.size+1+1) (by simp) ?_
        intro g2 cap2 w2 hown2 hgrow2 hat2 hlt2;clear hat2 hlt2;refine hK.out _ _ trivial (fun hHeld=>?_);clear hK K;have mb2:=row_far G2.out.s.own G2.out.b (by decide) hgrow2;have k1:=bc_ 0 mb2 rfl;have f1':=blk_frozen mb2 0
        try simp only [tk_,Act.put]
        refine wpAnyH_take (i:=6) (v:=?vqc6) rfl (by kernel_rfl) (by kernel_rfl) (by kernel_rfl) (fun _ _ _ h=>h) (Or.inl ⟨by rfl,?hyqc6⟩) (by assumption) ?restqc6
        case hyqc6=>(intro w hSw;(try dsimp only at hSw);go_simp;try (with_reducible rfl))
        try simp only [tk_,Act.put]
        refine wpAnyH_ready (rs:=[7]) (by kernel_rfl) (by simp) ?_
        refine AllReadyH.cons rfl (fun K hK=>?_) AllReadyH.nil
        go_simp
        refine hK.out _ _ trivial (fun hHeld=>?_);clear hK K;refine wpAnyH_done (by kernel_rfl) ?_ _;have G3:=hide (MS.addS G2.out (rowW_row W4 ns.length) hown2 hgrow2);clear hHeld mb2 k1 f1' hown2 hgrow2
        go_wp2_with fail
        go_meet
        case rel=>exact⟨_,_,G3.out⟩
     case rest=>
      obtain⟨v2,gN,hZ⟩:=hcut;have Z5:=hide hZ;clear hZ Z3;obtain⟨ak,ck,rfl,_,_⟩:=own_fm OK3.out;have RL:=Pure.repsN_len ns 256;have RLT:=hide (Pure.repsN_lt ns 256);generalize hR:Pure.repsN ns 256=R at *;have HR:=hide hR;clear hR;generalize hgo:w3.heap.size=go at *
      go_wp2_with fail
      go_loopg [14,15,16,17,18,19,20,21,22] 44 (fun gk kv _ _ _ _ _ _ _ _ wx=>∃(k:Nat) (vS vT vR:Value) (gss:List Nat) (S:List (Nat→Bool)) (ts rs:List Value),k≤41∧gk=44-k∧kv=.int .i64 k∧MS w3 ns.length go vS vT vR gss S ts rs wx∧Pure.machGo ns (Pure.fiG ls mode ls.length) (Pure.foG ls mode ls.length) (44-k) k S=Pure.machS ls ns mode∧gss.length≤300∧0<gss.length∧ts.length=k∧rs.length=k)
      case atStart=>exact⟨0,_,_,_,_,_,_,_,by omega,rfl,rfl,Z5.out,rfl,by simp,by simp,rfl,rfl⟩
      case round=>
       clear Z5;obtain⟨k,vS,vT,vR,gss,S,ts,rs,k41,rfl,rfl,hM,hG,l300,lpos,tl,rl⟩:=hrel;obtain⟨gS,cS,evS,_,_⟩:=own_some hM.s.own lpos;subst evS;obtain⟨aT,cT,rfl,_,_⟩:=own_fm hM.t;obtain⟨aR,cR,rfl,_,_⟩:=own_fm hM.r;have HM:=hide hM;have HG:=hide hG;have TL:=hide tl;have RL2:=hide rl;have c0:=bc_ 0 hM.b rfl;have SLEN:Hid (gss.length=S.length):=hM.s.len;clear hM hG tl rl;by_cases h1:k<gss.length
       ·have d3:=dl_ (k:Int) (gss.length:Int) (by omega)
        by_cases h2:gss.length≤41
        ·have d4:decide ((gss.length:Int)≤41)=true:=decide_eq_true (by omega)
         obtain⟨Bt,hBt⟩:∃Bt,Bt=wr.heap.size:=⟨_,rfl⟩;have BT:Hid (w3.heap.size≤Bt):=by have:=HM.out.be.size;show _≤_;omega
         have HLT:Hid (∀b,(Value.slice aR rs.length cR).ownBlock=some b→b<Bt):=fun b e=>by have:=(World.ownsRow.lt HM.out.r b e).2;omega
         have HBT:=hide hBt;clear hBt
         go_wp2_with fail
         go_loopg [15,16,17,18,19] R.length (fun gk tv jv _ _ _ wx=>∃(j:Nat) (vS':Value) (gss':List Nat) (S':List (Nat→Bool)) (xs:List Value),j≤R.length∧gk=R.length-j∧jv=.int .i64 j∧MS w3 ns.length go vS' (.slice aT ts.length cT) (.slice aR rs.length cR) gss' S' ts rs wx∧wx.ownsRow Bt 3 1 tv xs.length xs∧Bt≤wx.heap.size∧S'=(R.take j).foldl (fun Q c=>Pure.numbD ns.length Q (Pure.stepN ns (Pure.fiG ls mode ls.length) (Pure.foG ls mode ls.length) (Pure.rowD S k) (decide (k=0)) c)) S∧(∃more,gss'=gss++more∧more.length≤j)∧(∃more,S'=S++more)∧xs.length≤j)
         case atStart=>exact⟨0,_,_,_,[],Nat.zero_le _,rfl,rfl,HM.out,own_nil _ _ _ _,Nat.le_of_eq HBT.out,rfl,⟨[],by simp,lr_⟩,⟨[],by simp⟩,lr_⟩
         case round=>
          clear HM c0;obtain⟨j,vS',gss',S',xs,jl,rfl,rfl,hM,ho,hB,hS,⟨more,hm1,hm2⟩,⟨mors,hs1⟩,xl⟩:=hrel;by_cases hj:j<R.length
          ·have d5:=dl_ (j:Int) (R.length:Int) (by omega)
           have wj:=wr_ (j:Int) (by omega) (by omega);have ij0:=nz_ j;have ij1:(j:Int)<(R.length:Int):=by omega
           have ik0:=nz_ k;obtain⟨d,hd⟩:=gx_ R j hj;have hdl:d<256:=RLT.out d (List.mem_of_getElem? hd);have gl1:gss'.length=gss.length+more.length:=by rw [hm1,List.length_append]
           have ik1:(k:Int)<(gss'.length:Int):=by omega
           obtain⟨gS',cS',evS,_,_⟩:=own_some hM.s.own (by omega);subst evS;obtain⟨gsk,hgk⟩:∃q,gss'[k]?=some q:=⟨_,List.getElem?_eq_getElem (by omega)⟩
           have hSk:S'[k]?=some (Pure.rowD S k):=by
            have:k<S.length:=by have:=SLEN.out;omega
            rw [hs1,List.getElem?_append_left this];unfold Pure.rowD;rw [List.getD_eq_getElem?_getD,List.getElem?_eq_getElem this];rfl
           have rowk:=hM.s.row k gsk _ hgk hSk;obtain⟨gk,ck',evk,_,_⟩:=own_some OK3.out (by omega);cases evk;have c0:=bc_ 0 hM.b rfl;have ok4:=own_below OK3.out hM.be lr_;have c1:=own_cell hM.s.own (blsC_get hgk);have c2:=own_cell ok4 (natCells_get hd);have M4:=M3.out.below hM.be;have D4:=HD.out.below M4.be;generalize hst:Pure.stepN ns (Pure.fiG ls mode ls.length) (Pure.foG ls mode ls.length) (Pure.rowD S k) (decide (k=0)) d=st at *
           have CALL:Hid (∀W,Below wr.heap.size wr W→Calls Tryz.prog 99 #[.pointer (some ⟨w.heap.size+1,0,none⟩),rowV gF ns.length,rowV gsk ns.length,.bool (decide ((k:Int)=0)),.int .i64 (d:Int)] W (RetBl ns.length st W)):=fun W hb=>by
            have:=step_any B g i0 s ns (.slice an ns.length cn) (.slice al dls.length cl) modes down hn (w.heap.size+1) gf capf gF gsk gs (Pure.foG ls mode ls.length) (Pure.fiG ls mode ls.length) (Pure.rowD S k) (decide ((k:Int)=0)) d hdl W (D4.below hb) (M4.gf'.below hb) (blk_below M4.fi hb (blk_lt M4.fi)) (blk_below rowk hb (blk_lt rowk));rw [show decide ((k:Int)=0)=decide (k=0) by rw [decide_eq_decide];omega] at this ⊢;rw [hst] at this;exact this
           have FN:=hide (foldl_numb ns.length (fun c=>Pure.stepN ns (Pure.fiG ls mode ls.length) (Pure.foG ls mode ls.length) (Pure.rowD S k) (decide (k=0)) c) R S hd);have HM2:=hide hM;have HO2:=hide ho;have HS2:=hide hS;have HB2:=hide hB;have HST:=hide hst;have HM2':=hide hm2;have KEEP:Hid (∀W,Below wr.heap.size wr W→(W.cell? ⟨go,0,none⟩=some (.slice (some ⟨gS',0,none⟩) gss'.length cS')∧W.cell? ⟨gS',k,none⟩=some (.slice (some ⟨gsk,0,none⟩) ns.length ns.length)∧W.cell? ⟨gk,j,none⟩=some (.int .i64 (d:Int)))):=fun W hb=>⟨blk_cell (j:=0) (hM.below hb).b rfl,own_cell (hM.below hb).s.own (blsC_get hgk),own_cell (own_below ok4 hb lr_) (natCells_get hd)⟩
           have GL1:=hide (And.intro gl1 hm1);have HS1:=hide hs1;clear hM ho hS ok4 M4 D4 rowk hSk hs1 hd hst gl1 hm1 hm2 hB
           go_wp2_with fail
           have S1:=KEEP.out wr.drew ((Below.refl _ _).drew);refine wp_region_held_drew (S:=fun w'=>w'.cell? ⟨go,0,none⟩=some (.slice (some ⟨gS',0,none⟩) gss'.length cS')∧w'.cell? ⟨gS',k,none⟩=some (.slice (some ⟨gsk,0,none⟩) ns.length ns.length)∧w'.cell? ⟨gk,j,none⟩=some (.int .i64 (d:Int))) (by kernel_rfl) S1 (fun hHeld=>?_);refine wpAnyH_take (i:=0) (v:=?v0) rfl (by kernel_rfl) (by kernel_rfl) (by kernel_rfl) (fun _ _ _ h=>h) (Or.inl ⟨by rfl,?hy0⟩) (by assumption) ?rest0
           case hy0=>(intro w hSw;obtain⟨s0,s1,s2⟩:=hSw;go_simp;try (with_reducible rfl))
           try simp only [List.getElem_toArray,List.getElem_cons_zero,Act.put,List.setIfInBounds_toArray,List.set_cons_zero,List.set_cons_succ]
           refine wpAnyH_take (i:=1) (v:=?v1) rfl (by kernel_rfl) (by kernel_rfl) (by kernel_rfl) (fun _ _ _ h=>h) (Or.inl ⟨by rfl,?hy1⟩) (by assumption) ?rest1
           case hy1=>(intro w hSw;obtain⟨s0,s1,s2⟩:=hSw;go_simp;try (with_reducible rfl))
           try simp only [tk_,Act.put]
           refine wpAnyH_take (i:=2) (v:=?v2) rfl (by kernel_rfl) (by kernel_rfl) (by kernel_rfl) (fun _ _ _ h=>h) (Or.inl ⟨by rfl,?hy2⟩) (by assumption) ?rest2
           case hy2=>(intro w hSw;obtain⟨s0,s1,s2⟩:=hSw;go_simp;try (with_reducible rfl))
           try simp only [tk_,Act.put]
           refine wpAnyH_take (i:=3) (v:=?v3) rfl (by kernel_rfl) (by kernel_rfl) (by kernel_rfl) (fun _ _ _ h=>h) (Or.inl ⟨by rfl,?hy3⟩) (by assumption) ?rest3
           case hy3=>(intro w hSw;obtain⟨s0,s1,s2⟩:=hSw;go_simp;try (with_reducible rfl))
           try simp only [tk_,Act.put]
           refine wpAnyH_take (i:=4) (v:=?v4) rfl (by kernel_rfl) (by kernel_rfl) (by kernel_rfl) (fun _ _ _ h=>h) (Or.inl ⟨by rfl,?hy4⟩) (by assumption) ?rest4
           case hy4=>(intro w hSw;obtain⟨s0,s1,s2⟩:=hSw;go_simp;try (with_reducible rfl))
           try simp only [tk_,Act.put]
           refine wpAnyH_take (i:=5) (v:=?v5) rfl (by kernel_rfl) (by kernel_rfl) (by kernel_rfl) (fun _ _ _ h=>h) (Or.inl ⟨by rfl,?hy5⟩) (by assumption) ?rest5
           case hy5=>(intro w hSw;obtain⟨s0,s1,s2⟩:=hSw;go_simp;try (with_reducible rfl))
           try simp only [tk_,Act.put]
           refine wpAnyH_take (i:=6) (v:=?v6) rfl (by kernel_rfl) (by kernel_rfl) (by kernel_rfl) (fun _ _ _ h=>h) (Or.inl ⟨by rfl,?hy6⟩) (by assumption) ?rest6
           case hy6=>(intro w hSw;obtain⟨s0,s1,s2⟩:=hSw;go_simp;try (with_reducible rfl))
           try simp only [tk_,Act.put]
           refine wpAnyH_take (i:=7) (v:=?v7) rfl (by kernel_rfl) (by kernel_rfl) (by kernel_rfl) (fun _ _ _ h=>h) (Or.inl ⟨by rfl,?hy7⟩) (by assumption) ?rest7
           case hy7=>(intro w hSw;obtain⟨s0,s1,s2⟩:=hSw;go_simp;try (with_reducible rfl))
           try simp only [tk_,Act.put]
           refine wpAnyH_take (i:=8) (v:=?v8) rfl (by kernel_rfl) (by kernel_rfl) (by kernel_rfl) (fun _ _ _ h=>h) (Or.inl ⟨by rfl,?hy8⟩) (by assumption) ?rest8
           case hy8=>(intro w hSw;obtain⟨s0,s1,s2⟩:=hSw;go_simp;try (with_reducible rfl))
           try simp only [tk_,Act.put]
           refine wpAnyH_take (i:=9) (v:=?v9) rfl (by kernel_rfl) (by kernel_rfl) (by kernel_rfl) (fun _ _ _ h=>h) (Or.inl ⟨by rfl,?hy9⟩) (by assumption) ?rest9
           case hy9=>(intro w hSw;obtain⟨s0,s1,s2⟩:=hSw;go_simp;try (with_reducible rfl))
           try simp only [tk_,Act.put]
           refine wpAnyH_take (i:=10) (v:=?v10) rfl (by kernel_rfl) (by kernel_rfl) (by kernel_rfl) (fun _ _ _ h=>h) (Or.inl ⟨by rfl,?hy10⟩) (by assumption) ?rest10
           case hy10=>(intro w hSw;obtain⟨s0,s1,s2⟩:=hSw;go_simp;try (with_reducible rfl))
           try simp only [tk_,Act.put]
           refine wpAnyH_take (i:=11) (v:=?v11) rfl (by kernel_rfl) (by kernel_rfl) (by kernel_rfl) (fun _ _ _ h=>h) (Or.inl ⟨by rfl,?hy11⟩) (by assumption) ?rest11
           case hy11=>(intro w hSw;obtain⟨s0,s1,s2⟩:=hSw;go_simp;try (with_reducible rfl))
           try simp only [tk_,Act.put]
           refine wpAnyH_take (i:=12) (v:=?v12) rfl (by kernel_rfl) (by kernel_rfl) (by kernel_rfl) (fun _ _ _ h=>h) (Or.inl ⟨by rfl,?hy12⟩) (by assumption) ?rest12
           case hy12=>(intro w hSw;obtain⟨s0,s1,s2⟩:=hSw;go_simp;try (with_reducible rfl))
           try simp only [tk_,Act.put]
           refine wpAnyH_ready (rs:=[13]) (by kernel_rfl) (by simp) ?_
           refine AllReadyH.cons rfl (fun K hK=>?_) AllReadyH.nil
           go_simp
           refine (CALL.out _ ((Below.refl _ _).drew)).mono ?_
           rintro e w4 ⟨gN',rfl,hb4,l4,b4⟩;have hb4':Below wr.heap.size wr w4:=((Below.refl wr.heap.size wr).drew).trans hb4
           go_simp
           refine hK.out _ _ (KEEP.out _ hb4') (fun hHeld2=>?_);clear hK K
           try simp only [tk_,Act.put]
           refine wpAnyH_take (i:=14) (v:=?v14) rfl (by kernel_rfl) (by kernel_rfl) (by kernel_rfl) (fun _ _ _ h=>h) (Or.inl ⟨by rfl,?hy14⟩) (by assumption) ?rest14
           case hy14=>(intro w hSw;obtain⟨s0,s1,s2⟩:=hSw;go_simp;try (with_reducible rfl))
           try simp only [tk_,Act.put]
           refine wpAnyH_done (by kernel_rfl) ?_ _;have M5:=hide (HM2.out.below hb4');have O5:=hide (own_below HO2.out hb4' lr_);have N5:=hide b4;have B5:Hid (Bt≤w4.heap.size):=by have:=hb4'.size;have:=HB2.out;show _≤_;omega
           clear hHeld hHeld2 S1 hb4 hb4' l4 b4 HM2 HO2 HB2 CALL KEEP c0 c1 c2
           go_wp2_with fail
           refine (count_any ns.length gN' st w4 N5.out hn).mono ?_
           rintro e w5 ⟨rfl,hb5⟩;have M6:=hide (M5.out.below hb5);have O6:=hide (own_below O5.out hb5 lr_);have N6:=hide (blk_below N5.out hb5 (blk_lt N5.out));have B6:Hid (Bt≤w5.heap.size):=by have:=hb5.size;have:=B5.out;show _≤_;omega
           clear hb5 M5 O5 N5 B5;by_cases hz:Pure.cntB st ns.length=0
           ·have EQ:Hid (S'=(R.take (j+1)).foldl (fun Q c=>Pure.numbD ns.length Q (Pure.stepN ns (Pure.fiG ls mode ls.length) (Pure.foG ls mode ls.length) (Pure.rowD S k) (decide (k=0)) c)) S):=by
             show _=_;rw [FN.out,←HS2.out,HST.out,Pure.numbD_zero hz]
            rw [hz];clear hz FN HS2 HST N6
            go_wp2_with (at_builtin;go_must (refine wpList_append_one rfl (.tmp 139) (.tmp 140) 31 3 rfl (.int .i64 0) 8 Tryz.underlying31 int_info3 rfl (by decide) Bt _ xs rfl (World.ownsRow.alloc O6.out _) w5.heap.size (.int .i64 (-1)) rfl (heap_alloc_new _ _) rfl (by omega) (by have:=B6.out;simp;omega) ?_);intro v9 w9 hown9 hgrow9)
            have M9:=hide ((M6.out.below ((Below.refl w5.heap.size w5).alloc lr_ (.cells #[(.int .i64 (-1))] 3))).grow (World.ownsRow.alloc O6.out _) HLT.out BT.out hgrow9);have O9:=hide hown9;have B9:Hid (Bt≤w9.heap.size):=by have h1:=hgrow9.size;have h2:=B6.out;rw [World.size_alloc] at h1;show _≤_;omega
            clear hown9 hgrow9 M6 O6 B6;go_roundg (R.length-(j+1))
            case measure=>omega
            case rel=>exact⟨j+1,_,gss',S',_,by omega,rfl,by go_num,M9.out,O9.out,B9.out,EQ.out,⟨more,GL1.out.2,by have:=HM2'.out;omega⟩,⟨mors,HS1.out⟩,by simp;omega⟩
           ·skip
            obtain⟨f0,fs,hfs⟩:∃f0 fs,S'=f0::fs:=by
             have h0:=M6.out.s.len
             cases hc:S' with
             | nil=>
              rw [hc] at h0;have h1:gss'.length=0:=h0;have:=GL1.out.1;omega
             | cons a b=>exact⟨a,b,rfl⟩
            have PL:=hide (place_any w3.heap.size ns.length gN' _ gss' f0 fs st w5 (by rw [←hfs];exact M6.out.s) N6.out hn (by have h1:=M6.out.s.len;rw [hfs,List.length_cons] at h1;have:=GL1.out.1;have:=HM2'.out;omega));have c0:=bc_ 0 M6.out.b rfl;have HZ:=hide hz;have HFS:=hide hfs;have hci:((Pure.cntB st ns.length:Nat):Int)≠0:=by omega
            generalize ((Pure.cntB st ns.length:Nat):Int)=ci at hci ⊢;have hci2:¬ci=0:=hci;have hci3:(ci == 0)=false:=by simp [hci]
            clear hfs hz
            go_wp2_with fail
            refine PL.out.mono ?_
            clear PL c0;rintro e w6 ⟨rfl,hb6⟩;have M7:=hide (M6.out.below hb6);have O7:=hide (own_below O6.out hb6 lr_);have N7:=hide (blk_below N6.out hb6 (blk_lt N6.out));have B7:Hid (Bt≤w6.heap.size):=by have:=hb6.size;have:=B6.out;show _≤_;omega
            clear hb6 M6 O6 N6 B6;have TLS:Hid (S'.tail=fs):=by show _=_;rw [HFS.out];rfl
            by_cases hp:Pure.plc ns.length st fs 1<0
            ·have EQ:Hid (S'++[st]=(R.take (j+1)).foldl (fun Q c=>Pure.numbD ns.length Q (Pure.stepN ns (Pure.fiG ls mode ls.length) (Pure.foG ls mode ls.length) (Pure.rowD S k) (decide (k=0)) c)) S):=by
              show _=_;rw [FN.out,←HS2.out,HST.out,Pure.numbD_new HZ.out (by rw [TLS.out];exact hp)]
             clear FN HS2 HST TLS HZ HFS;generalize Pure.plc ns.length st fs 1=at' at hp ⊢;have dp:decide (at'<0)=true:=decide_eq_true hp;have hbA:Below w6.heap.size w6 (w6.alloc (.cells #[rowV gN' ns.length] 203)):=bn_ _;have MA8:=hide (M7.out.below hbA);have OA8:=hide (own_below O7.out hbA lr_);have NA8:Hid (Bl (w6.alloc (.cells #[rowV gN' ns.length] 203)) gN' ns.length st):=blk_below N7.out hbA (blk_lt N7.out);have OWS:Hid ((w6.alloc (.cells #[rowV gN' ns.length] 203)).ownsRow w3.heap.size 203 1 (.slice (some ⟨gS',0,none⟩) gss'.length cS') (blsC ns.length gss').length (blsC ns.length gss')):=by rw [blsC_length];exact MA8.out.s.own
             have GLN:gss'.length≤1000:=by have:=GL1.out.1;have:=HM2'.out;omega
             have SZA:Hid (w3.heap.size≤(w6.alloc (.cells #[rowV gN' ns.length] 203)).heap.size):=MA8.out.be.size;have c0:=bc_ 0 M7.out.b rfl;have c0a:=bc_ 0 MA8.out.b rfl;have B7':Hid (Bt≤(w6.alloc (.cells #[rowV gN' ns.length] 203)).heap.size):=by have:=B7.out;have:=hbA.size;show _≤_;omega
             clear M7 O7 N7 B7 hbA;go_upto_region 34 with (at_builtin;go_must (refine wpList_append_one rfl (.tmp 152) (.tmp 154) 102 203 rfl (.slice none 0 0) 24 Tryz.underlying102 bls_info rfl (by decide) w3.heap.size _ (blsC ns.length gss') rfl OWS.out w6.heap.size (rowV gN' ns.length) rfl (heap_alloc_new _ _) rfl (by rw [blsC_length];exact GLN) SZA.out ?_);intro v8 w8 hown8 hgrow8;have mb8:=row_far MA8.out.s.own MA8.out.b (by decide) hgrow8;have k8:=blk_cell (j:=0) mb8 rfl;have f8:=blk_frozen mb8 0;have hown8':=hide hown8;obtain⟨a8,c8,ev8,_,_⟩:=own_fm hown8;rw [List.length_append,List.length_singleton] at ev8;subst ev8;clear hown8);have gs8:=Lib.grownBy_setCell w8 go 0 (.slice a8 ((blsC ns.length gss').length+1) c8);have M8:=hide (MS.addS MA8.out NA8.out hown8'.out hgrow8);have O8:=hide (row_apart (rows_apart OA8.out MA8.out.s.own (by decide) hgrow8) mb8 (by decide) gs8);have B8:Hid (Bt≤(w8.setCell ⟨go,0,none⟩ (.slice a8 ((blsC ns.length gss').length+1) c8)).heap.size):=Nat.le_trans B7'.out (Nat.le_trans hgrow8.size gs8.size);clear mb8 k8 f8 hown8' hgrow8 gs8 MA8 OA8 NA8 OWS SZA c0 c0a B7';generalize w8.setCell ⟨go,0,none⟩ (.slice a8 ((blsC ns.length gss').length+1) c8)=w9 at *
             go_wp2_with (at_builtin;go_must (refine wpList_append_one rfl (.tmp 157) (.tmp 159) 31 3 rfl (.int .i64 0) 8 Tryz.underlying31 int_info3 rfl (by decide) Bt _ xs rfl (World.ownsRow.alloc O8.out _) w9.heap.size (.int .i64 (gss'.length:Int)) rfl (heap_alloc_new _ _) rfl (by omega) (by have:=B8.out;simp;omega) ?_);intro v9 w10 hown9 hgrow9)
             have M9:=hide ((M8.out.below ((Below.refl w9.heap.size w9).alloc lr_ (.cells #[.int .i64 (gss'.length:Int)] 3))).grow (World.ownsRow.alloc O8.out _) HLT.out BT.out hgrow9);have O9:=hide hown9;have B9:Hid (Bt≤w10.heap.size):=by have h1:=hgrow9.size;have h2:=B8.out;rw [World.size_alloc] at h1;show _≤_;omega
             clear hown9 hgrow9 M8 O8 B8;go_roundg (R.length-(j+1))
             case measure=>omega
             case rel=>exact⟨j+1,_,gss'++[gN'],S'++[st],_,by omega,rfl,by go_num,M9.out,O9.out,B9.out,EQ.out,⟨more++[gN'],by rw [GL1.out.2,List.append_assoc],by have:=HM2'.out;simp;omega⟩,⟨mors++[st],by rw [HS1.out,List.append_assoc]⟩,by simp;omega⟩
            ·have dp:decide (Pure.plc ns.length st fs 1<0)=false:=decide_eq_false hp
             have EQ:Hid (S'=(R.take (j+1)).foldl (fun Q c=>Pure.numbD ns.length Q (Pure.stepN ns (Pure.fiG ls mode ls.length) (Pure.foG ls mode ls.length) (Pure.rowD S k) (decide (k=0)) c)) S):=by
              show _=_;rw [FN.out,←HS2.out,HST.out,Pure.numbD_old HZ.out (by rw [TLS.out];exact hp)]
             clear hp FN HS2 HST N7 TLS HZ HFS;generalize Pure.plc ns.length st fs 1=at' at *
             go_wp2_with (at_builtin;go_must (refine wpList_append_one rfl (.tmp 157) (.tmp 159) 31 3 rfl (.int .i64 0) 8 Tryz.underlying31 int_info3 rfl (by decide) Bt _ xs rfl (World.ownsRow.alloc O7.out _) w6.heap.size (.int .i64 at') rfl (heap_alloc_new _ _) rfl (by omega) (by have:=B7.out;simp;omega) ?_);intro v9 w9 hown9 hgrow9)
             have M9:=hide ((M7.out.below ((Below.refl w6.heap.size w6).alloc lr_ (.cells #[(.int .i64 at')] 3))).grow (World.ownsRow.alloc O7.out _) HLT.out BT.out hgrow9);have O9:=hide hown9;have B9:Hid (Bt≤w9.heap.size):=by have h1:=hgrow9.size;have h2:=B7.out;rw [World.size_alloc] at h1;show _≤_;omega
             clear hown9 hgrow9 M7 O7 B7;go_roundg (R.length-(j+1))
             case measure=>omega
             case rel=>exact⟨j+1,_,gss',S',_,by omega,rfl,by go_num,M9.out,O9.out,B9.out,EQ.out,⟨more,GL1.out.2,by have:=HM2'.out;omega⟩,⟨mors,HS1.out⟩,by simp;omega⟩
          ·have d5:=df_ (j:Int) (R.length:Int) (by omega)
           have ej:j=R.length:=by omega
           have NXT:Hid (Pure.machGo ns (Pure.fiG ls mode ls.length) (Pure.foG ls mode ls.length) (44-(k+1)) (k+1) S'=Pure.machS ls ns mode):=by
            show _=_;rw [←HG.out,show 44-k=(43-k)+1 by omega,show 44-(k+1)=43-k by omega]
            conv=>rhs;unfold Pure.machGo
            rw [if_pos (by have:=SLEN.out;omega),hS,ej,List.take_length,HR.out];rfl
           obtain⟨at2,ct2,evt,_,_⟩:=own_fm ho;subst evt;have hbA:Below wr.heap.size wr (wr.alloc (.cells #[.slice at2 xs.length ct2] 31)):=bn_ _;have MA8:=hide (hM.below hbA);have SZA:Hid (w3.heap.size≤(wr.alloc (.cells #[.slice at2 xs.length ct2] 31)).heap.size):=MA8.out.be.size;have c1:=bc_ 1 hM.b rfl;have c1a:=bc_ 1 MA8.out.b rfl;have TL2:ts.length≤1000:=by have:=TL.out;omega
           have GLX:Hid (gss'.length≤300∧0<gss'.length):=by rw [hm1,List.length_append];exact⟨by omega,by omega⟩
           have GLK:Hid (k<gss'.length):=by rw [hm1,List.length_append];show _<_;omega
           clear hM ho hS hbA hm1 hs1 ej;go_upto_region 36 with (at_builtin;go_must (refine wpList_append_one rfl (.tmp 162) (.tmp 164) 27 31 rfl (.slice none 0 0) 24 Tryz.underlying27 ints_info rfl (by decide) w3.heap.size _ ts rfl MA8.out.t wr.heap.size (.slice at2 xs.length ct2) rfl (heap_alloc_new _ _) rfl TL2 SZA.out ?_);intro v8 w8 hown8 hgrow8;have mb8:=row_far MA8.out.t MA8.out.b (by decide) hgrow8;have k8:=blk_cell (j:=1) mb8 rfl;have f8:=blk_frozen mb8 1;have hown8':=hide hown8;obtain⟨a8,c8,ev8,_,_⟩:=own_fm hown8;rw [List.length_append,List.length_singleton] at ev8;subst ev8;clear hown8);have M8:=hide (MS.addT MA8.out hown8'.out hgrow8);clear mb8 k8 f8 hown8' hgrow8 MA8 SZA c1 c1a;generalize w8.setCell ⟨go,1,none⟩ (.slice a8 (ts.length+1) c8)=w9 at *;have ML9:=hide (M3.out.below M8.out.be);have wl:IntKind.i64.wrap ((dls.length:Int)-1)=(dls.length:Int)-1:=wrap_in _ (by omega) (by have:=HDL.out;omega);obtain⟨gsk,hgk⟩:∃q,gss'[k]?=some q:=⟨_,List.getElem?_eq_getElem GLK.out⟩;obtain⟨fk,hfk⟩:∃q,S'[k]?=some q:=⟨_,List.getElem?_eq_getElem (by rw [←M8.out.s.len];exact GLK.out)⟩;obtain⟨gS',cS',evS,_,_⟩:=own_some M8.out.s.own GLX.out.2;subst evS;have CK9:Hid (w9.cell? ⟨go,0,none⟩=some (.slice (some ⟨gS',0,none⟩) gss'.length cS')∧w9.cell? ⟨gS',k,none⟩=some (.slice (some ⟨gsk,0,none⟩) ns.length ns.length)∧Bl w9 gsk ns.length fk):=⟨blk_cell (j:=0) M8.out.b rfl,own_cell M8.out.s.own (blsC_get hgk),M8.out.s.row k gsk fk hgk hfk⟩;have IK1:Hid ((k:Int)<(gss'.length:Int)):=by have:=GLK.out;show _<_;omega
           clear hgk hfk
           go_wp2_with fail
           go_loopg [20,21,22] dls.length (fun gk rv iv _ wx=>∃(i':Nat) (r:Int),i'≤dls.length∧gk=i'∧rv=.int .i64 r∧iv=.int .i64 ((i':Int)-1)∧wx=w9)
           case atStart=>exact⟨dls.length,-1,lr_,rfl,rfl,rfl,rfl⟩
           case round=>
            obtain⟨i',r,il',hgk',rfl,rfl,rfl⟩:=hrel;by_cases hi':0<i'
            ·obtain⟨p,rfl⟩:∃p,i'=p+1:=⟨i'-1,by omega⟩
             rw [show (((p+1:Nat):Int)-1)=(p:Int) by omega];have d6:decide ((0:Int)≤(p:Int))=true:=decide_eq_true (by omega);have ip0:=nz_ p;have ip1:(p:Int)<(dls.length:Int):=by omega
             have wp:IntKind.i64.wrap ((p:Int)-1)=(p:Int)-1:=wrap_in _ (by omega) (by have:=HDL.out;omega);obtain⟨x,hx⟩:∃x,ls[p]?=some x:=⟨_,List.getElem?_eq_getElem (by have:=HDL.out;omega)⟩;obtain⟨v,hv1,hv2,hv3⟩:=ML9.out.lr p x hx;have cl9:=blk_cell ML9.out.la hv1
             have VV:Hid (v=.slice none 0 0∨∃g' f,v=.slice (some ⟨g',0,none⟩) ns.length ns.length∧Bl wr g' ns.length f):=by
              by_cases hc:p<ls.length∧x.mode=mode
              ·obtain⟨g',e1,_,e3⟩:=hv2 hc
               exact .inr ⟨g',_,e1,e3⟩
              ·exact .inl (hv3 hc)
             clear hv1 hv2 hv3 hx
             go_wp2_with fail
             go_loopg [20,22] ns.length (fun gk rv nv wx=>∃(n':Nat) (r':Int),n'≤ns.length∧gk=ns.length-n'∧rv=.int .i64 r'∧nv=.int .i64 n'∧wx=wr)
             case atStart=>exact⟨0,r,Nat.zero_le _,rfl,rfl,rfl,rfl⟩
             case round=>
              obtain⟨n',r',nl',rfl,rfl,rfl,rfl⟩:=hrel;by_cases hn':n'<ns.length
              ·have d7:=dl_ (n':Int) (ns.length:Int) (by omega)
               have wn:=wr_ (n':Int) (by omega) (by omega);have in0:=nz_ n';have in1:(n':Int)<(ns.length:Int):=by omega
               rcases VV.out with rfl | ⟨g',f,rfl,hg'⟩
               ·go_wp2
                go_roundg p
                case measure=>omega
                case rel=>exact⟨p,r',by omega,rfl,rfl,by go_num,rfl⟩
               ·have cg:=blk_cell hg' (bln_get f hn')
                have ck0:=CK9.out.1;have ck1:=CK9.out.2.1;have ck2:=blk_cell CK9.out.2.2 (bln_get fk hn');have ik1:(k:Int)<(gss'.length:Int):=IK1.out;have ik0:=nz_ k;clear hg';generalize f n'=b1 at *;generalize fk n'=b2 at *
                cases b1 with
                | true=>
                 cases b2 with
                 | true=>
                  go_wp2;go_roundg (ns.length-(n'+1))
                  case measure=>omega
                  case rel=>exact⟨n'+1,p,by omega,rfl,rfl,by go_num,rfl⟩
                 | false=>
                  go_wp2;go_roundg (ns.length-(n'+1))
                  case measure=>omega
                  case rel=>exact⟨n'+1,r',by omega,rfl,rfl,by go_num,rfl⟩
                | false=>
                 go_wp2;go_roundg (ns.length-(n'+1))
                 case measure=>omega
                 case rel=>exact⟨n'+1,r',by omega,rfl,rfl,by go_num,rfl⟩
              ·have d7:=df_ (n':Int) (ns.length:Int) (by omega)
               go_wp2;go_roundg p
               case measure=>omega
               case rel=>exact⟨p,r',by omega,rfl,rfl,by go_num,rfl⟩
            ·have e0:i'=0:=by omega
             subst e0;have d6:decide ((0:Int)≤(((0:Nat):Int)-1))=false:=by decide
             have hbA:Below wr.heap.size wr (wr.alloc (.cells #[.int .i64 r] 3)):=bn_ _;have MA9:=hide (M8.out.below hbA);have SZA:Hid (w3.heap.size≤(wr.alloc (.cells #[.int .i64 r] 3)).heap.size):=MA9.out.be.size;have c2:=bc_ 2 M8.out.b rfl;have c2a:=bc_ 2 MA9.out.b rfl;have RL3:rs.length≤1000:=by have:=RL2.out;omega
             clear M8 hbA CK9 ML9;go_upto_region 21 with (at_builtin;go_must (refine wpList_append_one rfl (.tmp 205) (.tmp 207) 31 3 rfl (.int .i64 0) 8 Tryz.underlying31 int_info3 rfl (by decide) w3.heap.size _ rs rfl MA9.out.r wr.heap.size (.int .i64 r) rfl (heap_alloc_new _ _) rfl RL3 SZA.out ?_);intro v8 w8 hown8 hgrow8;have mb8:=row_far MA9.out.r MA9.out.b (by decide) hgrow8;have k8:=blk_cell (j:=2) mb8 rfl;have f8:=blk_frozen mb8 2;have hown8':=hide hown8;obtain⟨a8,c8,ev8,_,_⟩:=own_fm hown8;rw [List.length_append,List.length_singleton] at ev8;subst ev8;clear hown8);have M10:=hide (MS.addR MA9.out hown8'.out hgrow8);have wk:=wr_ (k:Int) (by omega) (by omega);clear mb8 k8 f8 hown8' hgrow8 MA9 SZA c2 c2a;go_wp2;go_roundg (44-(k+1))
             case measure=>omega
             case rel=>exact⟨k+1,_,_,_,gss',S',_,_,by omega,rfl,by go_num,M10.out,NXT.out,GLX.out.1,GLX.out.2,by have:=TL.out;simp;omega,by have:=RL2.out;simp;omega⟩
        ·have d4:decide ((gss.length:Int)≤41)=false:=decide_eq_false (by omega)
         have RES:Hid (Pure.machS ls ns mode=S):=by
          show _=_;rw [←HG.out,show 44-k=(43-k)+1 by omega];unfold Pure.machGo;rw [if_neg (by have:=SLEN.out;omega)]
         have hb3:=M3.out.be;have r3:=blk_below M3.out.r0 HM.out.be (blk_lt M3.out.r0);have z0:=bc_ 0 r3 rfl;have z1:=bc_ 1 r3 rfl;have z2:=bc_ 2 r3 rfl;have f0:=blk_frozen r3 0;have f1:=blk_frozen r3 1;have f2:=blk_frozen r3 2;have c1:=bc_ 1 HM.out.b rfl;have c2:=bc_ 2 HM.out.b rfl;have ne1:w.heap.size≠go:=by have:=blk_lt M3.out.r0;have:=HM.out.lo;omega
         have ne2:go≠w.heap.size:=fun e=>ne1 e.symm
         have fin:=mach_fin hb3 M3.out.r0 lr_ HM.out;rw [←RES.out] at fin;have FIN:=hide fin;clear HM HG hb3 r3 M3 OK3 fin RES;go_wp2;exact bodyPost_ret (by simp [results,Tryz.results65,asAddr,FIN.out.1]) rfl FIN.out.2
       ·have d3:=df_ (k:Int) (gss.length:Int) (by omega)
        have RES:Hid (Pure.machS ls ns mode=S):=by
         show _=_;rw [←HG.out,show 44-k=(43-k)+1 by omega];unfold Pure.machGo;rw [if_neg (by have:=SLEN.out;omega)]
        have hb3:=M3.out.be;have r3:=blk_below M3.out.r0 HM.out.be (blk_lt M3.out.r0);have z0:=bc_ 0 r3 rfl;have z1:=bc_ 1 r3 rfl;have z2:=bc_ 2 r3 rfl;have f0:=blk_frozen r3 0;have f1:=blk_frozen r3 1;have f2:=blk_frozen r3 2;have c1:=bc_ 1 HM.out.b rfl;have c2:=bc_ 2 HM.out.b rfl;have ne1:w.heap.size≠go:=by have:=blk_lt M3.out.r0;have:=HM.out.lo;omega
        have ne2:go≠w.heap.size:=fun e=>ne1 e.symm
        have fin:=mach_fin hb3 M3.out.r0 lr_ HM.out;rw [←RES.out] at fin;have FIN:=hide fin;clear HM HG hb3 r3 M3 OK3 fin RES;go_wp2;exact bodyPost_ret (by simp [results,Tryz.results65,asAddr,FIN.out.1]) rfl FIN.out.2
end Go.Proofs.YtmccnmgaoppogaaGreat
