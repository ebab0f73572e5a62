/-
 The walks: the kinds of a mode's words. (kinds)
-/
import Derived.Test.YtmccnmgaoppogaaGreatJB
namespace Go.Proofs.YtmccnmgaoppogaaGreat
set_option maxRecDepth 100000
set_option maxHeartbeats 8000000
open Go.RowKit
theorem int_fill (x:Int):Instr.fill (fun i=>some (i*1,1)) ((Array.range (1*1)).map fun j=>((Value.int .i64 0).cells)[j % (Value.int .i64 0).cells.size]!) [(0,.int .i64 x)]=some #[.int .i64 x]:=by kernel_rfl
def RetKd (K:List Pure.Kd) (w:World) (e:Ending) (w':World):Prop:=∃v,e=.returned v∧Below w.heap.size w w'∧Kdm w.heap.size w' v K
structure Fb (w:World) (gs cap gq:Nat) (vr vk vf v:Value) (ss:List Pure.St) (rs:List Int) (q:Pure.Sorting) (K:List Pure.Kd) (W:World):Prop where
 be:Below w.heap.size w W
 b:Blk W w.heap.size 139 [.slice (some ⟨gs,0,none⟩) ss.length cap,vr]
 r:W.ownsRow w.heap.size 3 1 vr rs.length (intCells rs)
 sq:Blk W gq 145 [vk,vf]
 k:Nats W vk q.kinds
 f:Nats W vf q.firsts
 own:W.ownsRow w.heap.size 148 257 v K.length (kdsC K)
section
variable {w W W':World} {gs cap gq gK:Nat} {vr vk vf v v':Value} {ss:List Pure.St} {rs:List Int} {q:Pure.Sorting} {K:List Pure.Kd}
theorem Fb.below (h:Fb w gs cap gq vr vk vf v ss rs q K W) (hb:Below W.heap.size W W'):Fb w gs cap gq vr vk vf v ss rs q K W':=
 ⟨bel0 h.be hb,blk_below h.b hb (blk_lt h.b),own_below h.r hb lr_,blk_below h.sq hb (blk_lt h.sq),h.k.below hb,h.f.below hb,own_below h.own hb lr_⟩
theorem Fb.grown (h:Fb w gs cap gq vr vk vf v ss rs q K W) {xs:List Value} (hK:Blk W gK 148 xs) (hlo:w.heap.size≤gK) (hne:∀b,v.ownBlock=some b→b≠gK) (hg:W.grownBy W' (some gK)):Fb w gs cap gq vr vk vf v ss rs q K W':=
 ⟨h.be.grown hg h.be.size (fun k e=>by cases e;exact hlo),blk_grown h.b hg (fun e=>blk_ne2 h.b hK (by decide) (Option.some.inj e)),row_apart h.r hK (by decide) hg,blk_grown h.sq hg (fun e=>blk_ne2 h.sq hK (by decide) (Option.some.inj e)),row_apart h.k hK (by decide) hg,row_apart h.f hK (by decide) hg,own_offK h.own (fun k e e'=>hne k e (Option.some.inj e')) hg⟩
theorem Fb.add (h:Fb w gs cap gq vr vk vf v ss rs q K W) {k:Pure.Kd} (ho:W'.ownsRow w.heap.size 148 257 v' (K++[k]).length (kdsC (K++[k]))) (hg:W.grownBy W' v.ownBlock):Fb w gs cap gq vr vk vf v' ss rs q (K++[k]) W':=
 ⟨h.be.grown hg h.be.size (fun k e=>(World.ownsRow.lt h.own k e).1),row_far h.own h.b (by decide) hg,rows_apart h.r h.own (by decide) hg,row_far h.own h.sq (by decide) hg,rows_apart h.k h.own (by decide) hg,rows_apart h.f h.own (by decide) hg,ho⟩
end
namespace Pure
def kdUp (r:Int) (f:Nat→Nat) (b:Nat):Kd:=⟨r,(List.range b).map f++List.replicate (256-b) 0⟩
theorem kdUp_zero (r:Int) (f:Nat→Nat):kdUp r f 0=⟨r,z256⟩:=rfl
theorem kdUp_len (r:Int) (f:Nat→Nat) {b:Nat} (h:b≤256):(kdUp r f b).longer.length=256:=by
 unfold kdUp
 rw [List.length_append,List.length_map,List.length_range,List.length_replicate]
 omega
theorem kdUp_next (r:Int) (f:Nat→Nat) {b:Nat} (h:b<256):(kdUp r f (b+1)).longer=(kdUp r f b).longer.set b (f b):=by
 unfold kdUp
 obtain⟨m,hm⟩:∃m,256-b=m+1:=⟨256-b-1,by omega⟩
 rw [hm,List.replicate_succ,show 256-(b+1)=m by omega,List.range_succ,List.map_append]
 show _=((List.range b).map f++0::List.replicate m 0).set b (f b)
 rw [List.set_append_right _ _ (by simp)]
 simp
theorem kdUp_all (rs:List Int) (ss:List St) (q:Sorting) (set:Nat):kdUp (rs.getD set 0) (fun b=>q.kinds.getD (lgS ss set b) 0) 256=kindOf rs ss q set:=by
 unfold kdUp kindOf
 simp
theorem kinds_take (ls:List Lp) (ss:List St) {i o:Nat} (h:(sortS ss (rulesOf ls ss)).firsts[i]?=some o):(kindsS ls ss).take (i+1)=(kindsS ls ss).take i++[kindOf (rulesOf ls ss) ss (sortS ss (rulesOf ls ss)) o]:=by
 rw [List.take_add_one]
 unfold kindsS
 rw [List.getElem?_map,h]
 rfl
theorem sortS_first (ss:List St) (rs:List Int):(sortS ss rs).kinds.length=ss.length∧(sortS ss rs).firsts.length≤ss.length∧∀o∈(sortS ss rs).firsts,o<ss.length:=by
 have key:∀(f:Nat) (q:Sorting),(f=0→q.kinds.length=ss.length∧q.firsts.length≤ss.length∧∀o∈q.firsts,o<ss.length)→(sortGo ss rs f q).kinds.length=ss.length∧(sortGo ss rs f q).firsts.length≤ss.length∧∀o∈(sortGo ss rs f q).firsts,o<ss.length:=by
  intro f
  induction f with
  | zero=>intro q h;exact h rfl
  | succ f ih=>
   intro q _;unfold sortGo;split
   ·exact finer_ok ..
   ·exact ih _ (fun _=>finer_ok ..)
 exact key _ _ (fun h=>by omega)
end Pure
theorem kdC_set (r:Int) (f:Nat→Nat) {b:Nat} (h:b<256):(kdC (Pure.kdUp r f b)).set (1+b) (.int .i64 (f b:Int))=kdC (Pure.kdUp r f (b+1)):=by
 unfold kdC
 rw [Nat.add_comm,List.set_cons_succ,Pure.kdUp_next r f h]
 unfold natCells
 rw [List.map_set]
 rfl
theorem kfind_any (B n gs cap:Nat) (vl:Value) (ls:List Pure.Lp) (ss:List Pure.St) (w:World) (hL:Lm B w vl ls) (hS:Setm B w (.slice (some ⟨gs,0,none⟩) ss.length cap) ss) (hl:ls.length≤1000) (hn:n≤1000) (hok:∀x∈ls,Pure.PtOK n x.pt) (hpl:∀x∈ss,x.places.length≤1000) (hlt:∀z∈ss,∀m∈z.longer,m<ss.length) (hsl:ss.length≤1000) :
  Calls Tryz.prog 24 #[vl,.slice (some ⟨gs,0,none⟩) ss.length cap] w (RetKd (Pure.kindsS ls ss) w):=by
 obtain⟨il,hil,hl0,hl1,hl2⟩:=info_parts int_info4
 have F0:Hid (Fa w gs cap (.slice none 0 0) ss ((Pure.rulesOf ls ss).take 0) (w.alloc (.cells #[.slice (some ⟨gs,0,none⟩) ss.length cap,.slice none 0 0] 139))):=⟨bn_ _,heap_alloc_new _ _,own_nil _ _ _ _⟩
 have HL:=hide hL
 have HS:=hide hS
 have OK:=hide hok
 have HPL:=hide hpl
 have HLT:=hide hlt
 clear hL hS hok hpl hlt
 go_enter Tryz.func24,Tryz.ntmps24
 go_wp2_with fail
 go_loopg [7,19] ss.length (fun gk _ kv wx=>∃(k:Nat) (vr:Value),k≤ss.length∧gk=ss.length-k∧kv=.int .i64 k∧Fa w gs cap vr ss ((Pure.rulesOf ls ss).take k) wx)
 case atStart=>exact⟨0,_,Nat.zero_le _,rfl,rfl,F0.out⟩
 case round=>
  clear F0;obtain⟨k,vr,kl,rfl,rfl,hF⟩:=hrel;by_cases hlt:k<ss.length
  ·have d1:=dl_ (k:Int) (ss.length:Int) (by omega)
   have wi:=wr_ (k:Int) (by omega) (by omega);have ik0:=nz_ k;have ik1:(k:Int)<(ss.length:Int):=by omega
   obtain⟨x,hx⟩:=gx_ ss k hlt;have hxl:=HPL.out x (List.mem_of_getElem? hx);have TK:=hide (Pure.rulesOf_take ls ss hx);have RL:((Pure.rulesOf ls ss).take k).length≤1000:=by rw [List.length_take];omega
   generalize (Pure.rulesOf ls ss).take k=rs at *;generalize hfr:Pure.firstRule ls x.places=fr at *;obtain⟨gs',cap',ax,nx,cx,ev,hrg,hnat,hlg⟩:=(HS.out.below hF.be).get hx;cases ev;obtain⟨ar,cr,rfl,_,_⟩:=own_fm hF.r;have zv:=set_zeroV;have BX0:Hid (Blk (wr.alloc (.cells setZ.toArray 142)) wr.heap.size 142 setZ):=heap_alloc_new _ _;have sl:(stC1 (x,.slice ax nx cx)).length=257:=stC1_length hlg;have BX:=hide (blk_stored (stC1 (x,.slice ax nx cx)) BX0.out (by rw [setZ_length,sl]));have bw:Below wr.heap.size wr ((wr.alloc (.cells setZ.toArray 142)).setCells wr.heap.size 0 (stC1 (x,.slice ax nx cx))):=below_cells (g:=wr.heap.size) lr_ _ 0 _ ((Below.refl wr.heap.size wr).alloc lr_ _);have F2:=hide (hF.below bw);have N2:=hide (hnat.below bw);have L2:=hide ((HL.out.below hF.be).below bw);have HRG:=hide hrg;have NXW:Hid (wr.heap.size≠w.heap.size):=by have:=blk_lt hF.b;show _≠_;omega
   clear hrg hnat hF bw;go_upto_region 5 with (first | (refine wpList_load_mid rfl 142 (.tmp 21) rfl gs (k*257) rfl _ _ HRG.out Tryz.underlying142 rfl (by rw [sl];exact set_size) ?_) | (refine wpList_store_mid rfl 142 (.tmp 7) (.tmp 22) rfl wr.heap.size 0 (stC1 (x,.slice ax nx cx)).toArray rfl rfl (by have:=blk_there BX0.out;rw [setZ_length] at this;simpa [sl] using this) (by simp only [List.size_toArray,sl];exact set_size) (all_oneCell_toArray (stC1_one rfl)) ?_));clear HRG BX0;generalize (wr.alloc (.cells setZ.toArray 142)).setCells wr.heap.size 0 (stC1 (x,.slice ax nx cx))=W2 at *;generalize wr.heap.size=gx at *;have bd:Below W2.heap.size W2 W2.drew:=(Below.refl _ _).drew;have FD:=hide (F2.out.below bd);have BXD:=hide (blk_below BX.out bd (blk_lt BX.out))
   have CALL:Hid (∀W',Below W2.drew.heap.size W2.drew W'→Calls Tryz.prog 55 #[vl,.slice ax nx cx] W' (RetVal (.int .i64 fr) W')):=fun W' hb=>by
    have:=firstRule_any B n vl (.slice ax nx cx) ls x.places W' ((L2.out.below bd).below hb) ((N2.out.below bd).below hb) hl hn OK.out hxl;rw [hfr] at this;exact this
   have S1:W2.drew.cell? ⟨gx,0,none⟩=some (.slice ax nx cx):=blk_cell (j:=0) BXD.out rfl;have c1:=bc_ 1 FD.out.b rfl;clear bd F2 BX N2 L2;refine wp_region_held_drew (S:=fun w'=>w'.cell? ⟨gx,0,none⟩=some (.slice ax nx cx)) (by kernel_rfl) S1 (fun hHeld=>?_);generalize W2.drew=WD at *;refine wpAnyH_take (i:=0) (v:=?vp0) rfl (by kernel_rfl) (by kernel_rfl) (by kernel_rfl) (fun _ _ _ h=>h) (Or.inl ⟨by rfl,?hyp0⟩) (by assumption) ?restp0
   case hyp0=>(intro w hSw;(try dsimp only at hSw);go_simp;try (with_reducible rfl))
   try simp only [List.getElem_toArray,List.getElem_cons_zero,Act.put,List.setIfInBounds_toArray,List.set_cons_zero,List.set_cons_succ]
   refine wpAnyH_take (i:=2) (v:=?vp2) rfl (by kernel_rfl) (by kernel_rfl) (by kernel_rfl) (fun _ _ _ h=>h) (Or.inl ⟨by rfl,?hyp2⟩) (by assumption) ?restp2
   case hyp2=>(intro w hSw;(try dsimp only at hSw);go_simp;try (with_reducible rfl))
   try simp only [tk_,Act.put]
   refine wpAnyH_take (i:=3) (v:=?vp3) rfl (by kernel_rfl) (by kernel_rfl) (by kernel_rfl) (fun _ _ _ h=>h) (Or.inl ⟨by rfl,?hyp3⟩) (by assumption) ?restp3
   case hyp3=>(intro w hSw;(try dsimp only at hSw);go_simp;try (with_reducible rfl))
   try simp only [tk_,Act.put]
   refine wpAnyH_take (i:=4) (v:=?vp4) rfl (by kernel_rfl) (by kernel_rfl) (by kernel_rfl) (fun _ _ _ h=>h) (Or.inl ⟨by rfl,?hyp4⟩) (by assumption) ?restp4
   case hyp4=>(intro w hSw;(try dsimp only at hSw);go_simp;try (with_reducible rfl))
   try simp only [tk_,Act.put]
   refine wpAnyH_ready (rs:=[1,5]) (by kernel_rfl) (by simp) ?_
   refine AllReadyH.cons rfl (fun K hK=>?_) (AllReadyH.cons rfl (fun K hK=>?_) AllReadyH.nil)
   ·go_simp
    refine hK.out _ _ (hHeld) (fun hHeld=>?_);clear hK K
    try simp only [tk_,Act.put]
    refine wpAnyH_ready (rs:=[5]) (by kernel_rfl) (by simp) ?_
    refine AllReadyH.cons rfl (fun K hK=>?_) AllReadyH.nil
    go_simp
    refine (CALL.out _ (Below.refl _ _)).mono ?_
    rintro e w3 ⟨rfl,hb3⟩;have F3:=hide (FD.out.below hb3);have BX3:=hide (blk_below BXD.out hb3 (blk_lt BXD.out));have hb4:Below w3.heap.size w3 (w3.alloc (.cells #[.int .i64 fr] 3)):=bn_ _;have F4:=hide (F3.out.below hb4);have BX4:=hide (blk_below BX3.out hb4 (blk_lt BX3.out));have c3:=bc_ 1 F3.out.b rfl;have c4:=bc_ 1 F4.out.b rfl;have SZ4:Hid (w.heap.size≤(w3.alloc (.cells #[.int .i64 fr] 3)).heap.size):=F4.out.be.size;clear hb3 hb4;refine hK.out _ _ (blk_cell (j:=0) BX3.out rfl) (fun hHeld=>?_);clear hK K
    try simp only [tk_,Act.put]
    refine wpAnyH_ready (rs:=[6]) (by kernel_rfl) (by simp) ?_
    refine AllReadyH.cons rfl (fun K hK=>?_) AllReadyH.nil;refine wp_buildSlice1 31 3 0 (.tmp 28) (.int .i64 fr) rfl rfl #[.int .i64 fr] il _ 1 Tryz.underlying31 hil hl0 hl1 (by omega) (by omega) (int_fill _) ?_
    refine hK.out _ _ (blk_cell (j:=0) BX4.out rfl) (fun hHeld=>?_);clear hK K
    try simp only [tk_,Act.put]
    refine wpAnyH_ready (rs:=[7]) (by kernel_rfl) (by simp) ?_
    refine AllReadyH.cons rfl (fun K hK=>?_) AllReadyH.nil;refine step_append_lies _ (by rfl) _ _ _ (by rfl) w.heap.size 3 il _ 1 8 Tryz.underlying31 hil hl0 hl1 hl2 rfl (by omega) (.slice ar rs.length cr) rs.length (intCells rs) (by rfl) F4.out.r ⟨w3.heap.size,0,none⟩ 1 1 [.int .i64 fr] (by rfl) rfl (World.news_of_block (cs:=#[.int .i64 fr]) (t:=3) (fr:=(0,0)) (heap_alloc_new _ _)) (fun z hz=>by simp at hz;rw [hz];rfl) (by omega) (by unfold maxLen;omega) (by omega) SZ4.out (w3.heap.size+1) (by simp) ?_
    intro g2 cap2 w5 hown2 hgrow2 hat2 hlt2;clear hat2 hlt2;have mb2:=row_far F4.out.r F4.out.b (by decide) hgrow2;have bx5:=row_far F4.out.r BX4.out (by decide) hgrow2;refine hK.out _ _ (blk_cell (j:=0) bx5 rfl) (fun hHeld=>?_);have k5:=bc_ 1 mb2 rfl;have f5':=blk_frozen mb2 1;clear hK K
    try simp only [tk_,Act.put]
    refine wpAnyH_take (i:=8) (v:=?va8) rfl (by kernel_rfl) (by kernel_rfl) (by kernel_rfl) (fun _ _ _ h=>h) (Or.inl ⟨by rfl,?hya8⟩) (by assumption) ?resta8
    case hya8=>(intro w hSw;(try dsimp only at hSw);go_simp;try (with_reducible rfl))
    try simp only [tk_,Act.put]
    refine wpAnyH_ready (rs:=[9]) (by kernel_rfl) (by simp) ?_
    refine AllReadyH.cons rfl (fun K hK=>?_) AllReadyH.nil
    go_simp
    have hg3:=Lib.grownBy_setCell w5 w.heap.size 1 (.slice (some ⟨g2,0,none⟩) (rs.length+1) cap2);have bx6:=blk_grown bx5 hg3 (fun e=>NXW.out (Option.some.inj e));refine hK.out _ _ (blk_cell (j:=0) bx6 rfl) (fun hHeld=>?_);clear hK K;refine wpAnyH_done (by kernel_rfl) ?_ _;have F6:=hide (F4.out.add hown2 hgrow2);clear mb2 bx5 bx6 k5 f5' hown2 hgrow2 hg3 F3 F4 BX3 BX4 c3 c4 SZ4 FD BXD c1 S1 CALL;generalize w5.setCell ⟨w.heap.size,1,none⟩ (.slice (some ⟨g2,0,none⟩) (rs.length+1) cap2)=w6 at *;go_wp2;go_roundg (ss.length-(k+1))
    case measure=>omega
    case rel=>exact⟨k+1,_,by omega,rfl,by go_num,by rw [TK.out];exact F6.out⟩
   ·go_simp
    refine (CALL.out _ (Below.refl _ _)).mono ?_
    rintro e w3 ⟨rfl,hb3⟩;have F3:=hide (FD.out.below hb3);have BX3:=hide (blk_below BXD.out hb3 (blk_lt BXD.out));have hb4:Below w3.heap.size w3 (w3.alloc (.cells #[.int .i64 fr] 3)):=bn_ _;have F4:=hide (F3.out.below hb4);have BX4:=hide (blk_below BX3.out hb4 (blk_lt BX3.out));have c3:=bc_ 1 F3.out.b rfl;have c4:=bc_ 1 F4.out.b rfl;have SZ4:Hid (w.heap.size≤(w3.alloc (.cells #[.int .i64 fr] 3)).heap.size):=F4.out.be.size;clear hb3 hb4;refine hK.out _ _ (blk_cell (j:=0) BX3.out rfl) (fun hHeld=>?_);clear hK K
    try simp only [tk_,Act.put]
    refine wpAnyH_ready (rs:=[1,6]) (by kernel_rfl) (by simp) ?_
    refine AllReadyH.cons rfl (fun K hK=>?_) (AllReadyH.cons rfl (fun K hK=>?_) AllReadyH.nil)
    ·go_simp
     refine hK.out _ _ (hHeld) (fun hHeld=>?_);clear hK K
     try simp only [tk_,Act.put]
     refine wpAnyH_ready (rs:=[6]) (by kernel_rfl) (by simp) ?_
     refine AllReadyH.cons rfl (fun K hK=>?_) AllReadyH.nil;refine wp_buildSlice1 31 3 0 (.tmp 28) (.int .i64 fr) rfl rfl #[.int .i64 fr] il _ 1 Tryz.underlying31 hil hl0 hl1 (by omega) (by omega) (int_fill _) ?_
     refine hK.out _ _ (blk_cell (j:=0) BX4.out rfl) (fun hHeld=>?_);clear hK K
     try simp only [tk_,Act.put]
     refine wpAnyH_ready (rs:=[7]) (by kernel_rfl) (by simp) ?_
     refine AllReadyH.cons rfl (fun K hK=>?_) AllReadyH.nil;refine step_append_lies _ (by rfl) _ _ _ (by rfl) w.heap.size 3 il _ 1 8 Tryz.underlying31 hil hl0 hl1 hl2 rfl (by omega) (.slice ar rs.length cr) rs.length (intCells rs) (by rfl) F4.out.r ⟨w3.heap.size,0,none⟩ 1 1 [.int .i64 fr] (by rfl) rfl (World.news_of_block (cs:=#[.int .i64 fr]) (t:=3) (fr:=(0,0)) (heap_alloc_new _ _)) (fun z hz=>by simp at hz;rw [hz];rfl) (by omega) (by unfold maxLen;omega) (by omega) SZ4.out (w3.heap.size+1) (by simp) ?_
     intro g2 cap2 w5 hown2 hgrow2 hat2 hlt2;clear hat2 hlt2;have mb2:=row_far F4.out.r F4.out.b (by decide) hgrow2;have bx5:=row_far F4.out.r BX4.out (by decide) hgrow2;refine hK.out _ _ (blk_cell (j:=0) bx5 rfl) (fun hHeld=>?_);have k5:=bc_ 1 mb2 rfl;have f5':=blk_frozen mb2 1;clear hK K
     try simp only [tk_,Act.put]
     refine wpAnyH_take (i:=8) (v:=?vb8) rfl (by kernel_rfl) (by kernel_rfl) (by kernel_rfl) (fun _ _ _ h=>h) (Or.inl ⟨by rfl,?hyb8⟩) (by assumption) ?restb8
     case hyb8=>(intro w hSw;(try dsimp only at hSw);go_simp;try (with_reducible rfl))
     try simp only [tk_,Act.put]
     refine wpAnyH_ready (rs:=[9]) (by kernel_rfl) (by simp) ?_
     refine AllReadyH.cons rfl (fun K hK=>?_) AllReadyH.nil
     go_simp
     have hg3:=Lib.grownBy_setCell w5 w.heap.size 1 (.slice (some ⟨g2,0,none⟩) (rs.length+1) cap2);have bx6:=blk_grown bx5 hg3 (fun e=>NXW.out (Option.some.inj e));refine hK.out _ _ (blk_cell (j:=0) bx6 rfl) (fun hHeld=>?_);clear hK K;refine wpAnyH_done (by kernel_rfl) ?_ _;have F6:=hide (F4.out.add hown2 hgrow2);clear mb2 bx5 bx6 k5 f5' hown2 hgrow2 hg3 F3 F4 BX3 BX4 c3 c4 SZ4 FD BXD c1 S1 CALL;generalize w5.setCell ⟨w.heap.size,1,none⟩ (.slice (some ⟨g2,0,none⟩) (rs.length+1) cap2)=w6 at *;go_wp2;go_roundg (ss.length-(k+1))
     case measure=>omega
     case rel=>exact⟨k+1,_,by omega,rfl,by go_num,by rw [TK.out];exact F6.out⟩
    ·refine wp_buildSlice1 31 3 0 (.tmp 28) (.int .i64 fr) rfl rfl #[.int .i64 fr] il _ 1 Tryz.underlying31 hil hl0 hl1 (by omega) (by omega) (int_fill _) ?_
     refine hK.out _ _ (blk_cell (j:=0) BX4.out rfl) (fun hHeld=>?_);clear hK K
     try simp only [tk_,Act.put]
     refine wpAnyH_ready (rs:=[1]) (by kernel_rfl) (by simp) ?_
     refine AllReadyH.cons rfl (fun K hK=>?_) AllReadyH.nil
     go_simp
     refine hK.out _ _ (hHeld) (fun hHeld=>?_);clear hK K
     try simp only [tk_,Act.put]
     refine wpAnyH_ready (rs:=[7]) (by kernel_rfl) (by simp) ?_
     refine AllReadyH.cons rfl (fun K hK=>?_) AllReadyH.nil;refine step_append_lies _ (by rfl) _ _ _ (by rfl) w.heap.size 3 il _ 1 8 Tryz.underlying31 hil hl0 hl1 hl2 rfl (by omega) (.slice ar rs.length cr) rs.length (intCells rs) (by rfl) F4.out.r ⟨w3.heap.size,0,none⟩ 1 1 [.int .i64 fr] (by rfl) rfl (World.news_of_block (cs:=#[.int .i64 fr]) (t:=3) (fr:=(0,0)) (heap_alloc_new _ _)) (fun z hz=>by simp at hz;rw [hz];rfl) (by omega) (by unfold maxLen;omega) (by omega) SZ4.out (w3.heap.size+1) (by simp) ?_
     intro g2 cap2 w5 hown2 hgrow2 hat2 hlt2;clear hat2 hlt2;have mb2:=row_far F4.out.r F4.out.b (by decide) hgrow2;have bx5:=row_far F4.out.r BX4.out (by decide) hgrow2;refine hK.out _ _ (blk_cell (j:=0) bx5 rfl) (fun hHeld=>?_);have k5:=bc_ 1 mb2 rfl;have f5':=blk_frozen mb2 1;clear hK K
     try simp only [tk_,Act.put]
     refine wpAnyH_take (i:=8) (v:=?vc8) rfl (by kernel_rfl) (by kernel_rfl) (by kernel_rfl) (fun _ _ _ h=>h) (Or.inl ⟨by rfl,?hyc8⟩) (by assumption) ?restc8
     case hyc8=>(intro w hSw;(try dsimp only at hSw);go_simp;try (with_reducible rfl))
     try simp only [tk_,Act.put]
     refine wpAnyH_ready (rs:=[9]) (by kernel_rfl) (by simp) ?_
     refine AllReadyH.cons rfl (fun K hK=>?_) AllReadyH.nil
     go_simp
     have hg3:=Lib.grownBy_setCell w5 w.heap.size 1 (.slice (some ⟨g2,0,none⟩) (rs.length+1) cap2);have bx6:=blk_grown bx5 hg3 (fun e=>NXW.out (Option.some.inj e));refine hK.out _ _ (blk_cell (j:=0) bx6 rfl) (fun hHeld=>?_);clear hK K;refine wpAnyH_done (by kernel_rfl) ?_ _;have F6:=hide (F4.out.add hown2 hgrow2);clear mb2 bx5 bx6 k5 f5' hown2 hgrow2 hg3 F3 F4 BX3 BX4 c3 c4 SZ4 FD BXD c1 S1 CALL;generalize w5.setCell ⟨w.heap.size,1,none⟩ (.slice (some ⟨g2,0,none⟩) (rs.length+1) cap2)=w6 at *;go_wp2;go_roundg (ss.length-(k+1))
     case measure=>omega
     case rel=>exact⟨k+1,_,by omega,rfl,by go_num,by rw [TK.out];exact F6.out⟩
  ·have d1:=df_ (k:Int) (ss.length:Int) (by omega)
   have ek:(Pure.rulesOf ls ss).take k=Pure.rulesOf ls ss:=List.take_of_length_le (by rw [Pure.rulesOf_len];omega);rw [ek] at hF;have RN:=hide (Pure.rulesOf_len ls ss);have KS:Hid (Pure.kindsS ls ss=(Pure.sortS ss (Pure.rulesOf ls ss)).firsts.map (Pure.kindOf (Pure.rulesOf ls ss) ss (Pure.sortS ss (Pure.rulesOf ls ss)))):=rfl;have KT:=hide (fun (i o:Nat) (h:(Pure.sortS ss (Pure.rulesOf ls ss)).firsts[i]?=some o)=>Pure.kinds_take ls ss h);have SF:=hide (Pure.sortS_first ss (Pure.rulesOf ls ss));have CALL:=hide (sort_any 0 w.heap.size gs cap vr ss (Pure.rulesOf ls ss) wr (hF.md (setm_zero (HS.out.below hF.be)) RN.out) HLT.out hsl);generalize Pure.rulesOf ls ss=rs at *;have HF:=hide hF;clear hF ek
   go_wp2_with fail
   refine CALL.out.mono ?_
   clear CALL;rintro e w3 ⟨v1,v2,rfl,hb3,o1,o2,_⟩;generalize Pure.sortS ss rs=q at *;obtain⟨a1,c1,rfl,_,_⟩:=own_fm o1;obtain⟨a2,c2,rfl,_,_⟩:=own_fm o2;have hbA:Below w3.heap.size w3 (w3.alloc (.cells #[.slice a1 q.kinds.length c1,.slice a2 q.firsts.length c2] 145)):=bn_ _;have F4:=hide ((HF.out.below hb3).below hbA);have Q4:Hid (Blk (w3.alloc (.cells #[.slice a1 q.kinds.length c1,.slice a2 q.firsts.length c2] 145)) w3.heap.size 145 [.slice a1 q.kinds.length c1,.slice a2 q.firsts.length c2]):=heap_alloc_new _ _;have N1:Hid (Nats (w3.alloc (.cells #[.slice a1 q.kinds.length c1,.slice a2 q.firsts.length c2] 145)) (.slice a1 q.kinds.length c1) q.kinds):=own_mono (own_below o1 hbA lr_) (Nat.zero_le _);have N2:Hid (Nats (w3.alloc (.cells #[.slice a1 q.kinds.length c1,.slice a2 q.firsts.length c2] 145)) (.slice a2 q.firsts.length c2) q.firsts):=own_mono (own_below o2 hbA lr_) (Nat.zero_le _);clear HF hb3 o1 o2 hbA;go_upto_region 8 with (fail);generalize w3.alloc (.cells #[.slice a1 q.kinds.length c1,.slice a2 q.firsts.length c2] 145)=W4 at *;generalize w3.heap.size=gq at *;have x0:=bc_ 0 Q4.out rfl;have x1:=bc_ 1 Q4.out rfl;obtain⟨ik,hik,hk0,hk1,hk2⟩:=info_parts kd_info;obtain⟨W5,mk5,ow5,gr5⟩:=run_make_own (P:=Tryz.prog) W4 w.heap.size 88 148 ik _ 257 Tryz.underlying88 hik hk0 hk1 .i64 .i64 q.firsts.length (by rw [hk2];have:=SF.out.2.1;omega) (by unfold maxLen;have:=SF.out.2.1;omega) F4.out.be.size;have b5:=grown_none gr5
   have FB5:Hid (Fb w gs cap gq vr (.slice a1 q.kinds.length c1) (.slice a2 q.firsts.length c2) (.slice (some ⟨W4.heap.size,0,none⟩) 0 q.firsts.length) ss rs q ((Pure.kindsS ls ss).take 0) W5):=by
    have F5:=F4.out.below b5;exact⟨F5.be,F5.b,F5.r,blk_below Q4.out b5 (blk_lt Q4.out),N1.out.below b5,N2.out.below b5,by rw [List.take_zero];exact ow5⟩
   have y0:=bc_ 0 FB5.out.sq rfl;have y1:=bc_ 1 FB5.out.sq rfl;clear F4 Q4 N1 N2 ow5 gr5 b5
   go_wp2_with fail
   clear x0 x1 y0 y1 mk5;generalize W4.heap.size=g9 at *
   go_loopg [9,11,12,41] q.firsts.length (fun gk kv _ _ iv wx=>∃(i:Nat) (v:Value),i≤q.firsts.length∧gk=q.firsts.length-i∧iv=.int .i64 i∧v=kv∧Fb w gs cap gq vr (.slice a1 q.kinds.length c1) (.slice a2 q.firsts.length c2) v ss rs q ((Pure.kindsS ls ss).take i) wx)
   case atStart=>exact⟨0,_,Nat.zero_le _,rfl,rfl,rfl,FB5.out⟩
   case round=>
    clear FB5;obtain⟨i,v,il,rfl,rfl,rfl,hF⟩:=hrel
    have KLE:((Pure.kindsS ls ss).take i).length≤1000:=by
     have:=SF.out.2.1;rw [KS.out,List.length_take,List.length_map];omega
    by_cases hi:i<q.firsts.length
    ·have d2:=dl_ (i:Int) (q.firsts.length:Int) (by omega)
     have wi:=wr_ (i:Int) (by omega) (by omega);have ii0:=nz_ i;have ii1:(i:Int)<(q.firsts.length:Int):=by omega
     obtain⟨o,ho⟩:=gx_ q.firsts i hi;have ol:=SF.out.2.2 o (List.mem_of_getElem? ho);have KN:=hide (KT.out i o ho);generalize (Pure.kindsS ls ss).take i=K at *;obtain⟨gf,ef,_,fc⟩:=hF.f.some (by omega);subst ef;have f1:=fc i o ho;obtain⟨gr,cr,er,_,_⟩:=own_some hF.r (by rw [RN.out];omega);subst er;obtain⟨ra,hra⟩:∃z,rs[o]?=some z:=⟨_,List.getElem?_eq_getElem (by rw [RN.out];exact ol)⟩;have r1:=own_cell hF.r (show (intCells rs)[o]?=some (.int .i64 ra) by simp [intCells,hra]);have RA:Hid (rs.getD o 0=ra):=by show _=_;rw [List.getD_eq_getElem?_getD,hra];rfl
     have io0:=nz_ o;have io1:(o:Int)<(rs.length:Int):=by have:=RN.out;omega
     have io2:(o:Int)<(ss.length:Int):=by omega
     have m1:=bc_ 1 hF.b rfl;have y1:=bc_ 1 hF.sq rfl;have KB:=hide (kd_built ra);have zk:=kd_zeroV;rw [←kdC_new] at KB;have BX0:Hid (Blk (wr.alloc (.cells kdZ.toArray 148)) wr.heap.size 148 kdZ):=heap_alloc_new _ _;have sl:(kdC ⟨ra,Pure.z256⟩).length=257:=kdC_length z256_len;have BX:=hide (blk_stored (kdC ⟨ra,Pure.z256⟩) BX0.out (by rw [kdZ_length,sl]));have bw:Below wr.heap.size wr ((wr.alloc (.cells kdZ.toArray 148)).setCells wr.heap.size 0 (kdC ⟨ra,Pure.z256⟩)):=below_cells (g:=wr.heap.size) lr_ _ 0 _ ((Below.refl wr.heap.size wr).alloc lr_ _);have F6:=hide (hF.below bw);have NE6:Hid (∀b,v.ownBlock=some b→b≠wr.heap.size):=fun b e=>by have:=(World.ownsRow.lt hF.own b e).2;omega
     have GL6:Hid (w.heap.size≤wr.heap.size):=hF.be.size;clear hF fc bw ho hra;go_upto_region 13 with (first | (refine wpList_build1 rfl 148 0 (.tmp 49) (.int .i64 ra) rfl rfl _ KB.out ?_) | (refine wpList_store_mid rfl 148 (.tmp 12) (.tmp 50) rfl wr.heap.size 0 (kdC ⟨ra,Pure.z256⟩).toArray rfl rfl (by have:=blk_there BX0.out;rw [kdZ_length] at this;simpa [sl] using this) (by simp only [List.size_toArray,sl];exact kd_size) (all_oneCell_toArray (kdC_one _)) ?_));clear BX0 f1 r1 m1 y1 KB;generalize (wr.alloc (.cells kdZ.toArray 148)).setCells wr.heap.size 0 (kdC ⟨ra,Pure.z256⟩)=W6 at *;generalize wr.heap.size=gK at *;obtain⟨x,hx⟩:=gx_ ss o ol;have LG:=hide ((HS.out.below F6.out.be).long hx);have xl:=LG.out.2.1
     have LGX:Hid (∀(b p:Nat),x.longer[b]?=some p→Pure.lgS ss o b=p):=fun b p hp=>by
      unfold Pure.lgS;rw [hx];simp [List.getD_eq_getElem?_getD,hp]
     have XLT:=hide (HLT.out x (List.mem_of_getElem? hx));have KLN:=hide SF.out.1;clear hx;go_upto_region 14 with (refine wpList_load_mid rfl 140 (.tmp 54) rfl gs (o*257+1) rfl _ _ LG.out.1 Tryz.underlying140 rfl (by rw [natCells_length,xl];kernel_rfl) ?_);clear LG
     go_loopg [13,14,56] 256 (fun gj _ _ bv wx=>∃(b:Nat),b≤256∧gj=256-b∧bv=.int .i64 b∧Fb w gs cap gq (.slice (some ⟨gr,0,none⟩) rs.length cr) (.slice a1 q.kinds.length c1) (.slice (some ⟨gf,0,none⟩) q.firsts.length c2) v ss rs q K wx∧Blk wx gK 148 (kdC (Pure.kdUp ra (fun b=>q.kinds.getD (Pure.lgS ss o b) 0) b)))
     case atStart=>exact⟨0,Nat.zero_le _,rfl,rfl,F6.out,by rw [Pure.kdUp_zero];exact BX.out⟩
     case round=>
      clear F6 BX;obtain⟨b,bl,rfl,rfl,hF,hB⟩:=hrel;by_cases hb:b<256
      ·have d3:decide ((b:Int)<256)=true:=decide_eq_true (by omega)
       have wb:=wr_ (b:Int) (by omega) (by omega);have ib0:=nz_ b;have ib1:(b:Int)<256:=by omega
       obtain⟨p,hp⟩:=gx_ x.longer b (by omega);have pl:=XLT.out p (List.mem_of_getElem? hp);have ip0:=nz_ p;have ip1:(p:Int)<(q.kinds.length:Int):=by have:=KLN.out;omega
       obtain⟨gk,ek,_,kc⟩:=hF.k.some (by have:=KLN.out;omega);subst ek;obtain⟨kp,hkp⟩:∃z,q.kinds[p]?=some z:=⟨_,List.getElem?_eq_getElem (by have:=KLN.out;omega)⟩;have k1:=kc p kp hkp;have y0:=bc_ 0 hF.sq rfl;have xc:(natCells x.longer).toArray[b]?=some (.int .i64 (p:Int)):=by rw [List.getElem?_toArray];exact natCells_get hp
       have hix:=run_index_arr _ b _ hb xc
       have FV:Hid (q.kinds.getD (Pure.lgS ss o b) 0=kp):=by
        show _=_;rw [LGX.out b p hp,List.getD_eq_getElem?_getD,hkp];rfl
       have KS:=hide (kdC_set ra (fun b=>q.kinds.getD (Pure.lgS ss o b) 0) hb);have KUL:=Pure.kdUp_len ra (fun b=>q.kinds.getD (Pure.lgS ss o b) 0) bl;generalize Pure.kdUp ra (fun b=>q.kinds.getD (Pure.lgS ss o b) 0) b=ku at *;obtain⟨z,hz⟩:∃z,(kdC ku)[1+b]?=some z:=⟨_,List.getElem?_eq_getElem (by rw [kdC_length KUL];omega)⟩;have s1:=blk_cell hB hz;have s2:=blk_frozen hB (1+b);have hg:=Lib.grownBy_setCell wr gK (1+b) (.int .i64 (kp:Int));have F7:=hide (hF.grown hB GL6.out NE6.out hg)
       have B7:Hid (Blk (wr.setCell ⟨gK,1+b,none⟩ (.int .i64 (kp:Int))) gK 148 (kdC (Pure.kdUp ra (fun b=>q.kinds.getD (Pure.lgS ss o b) 0) (b+1)))):=by
        have:=blk_set hB (1+b) (.int .i64 (kp:Int));rw [←KS.out,FV.out];exact this
       clear hF hB kc hp hkp xc pl hg KS FV hz KUL;go_wp2;go_roundg (256-(b+1))
       case measure=>omega
       case rel=>exact⟨b+1,by omega,rfl,by go_num,F7.out,B7.out⟩
      ·have d3:decide ((b:Int)<256)=false:=decide_eq_false (by omega)
       have eb:b=256:=by omega
       subst eb;rw [←RA.out,Pure.kdUp_all] at hB;rw [←RA.out] at *;have kol:(Pure.kindOf rs ss q o).longer.length=256:=by simp [Pure.kindOf]
       generalize Pure.kindOf rs ss q o=ko at *;have sl2:(kdC ko).length=257:=kdC_length kol;have HRG:=hide (blk_range hB);have hbA:Below wr.heap.size wr (wr.alloc (.cells (kdC ko).toArray 148)):=bn_ _;have F8:=hide (hF.below hbA);have NB:Hid (Blk (wr.alloc (.cells (kdC ko).toArray 148)) wr.heap.size 148 (kdC ko)):=heap_alloc_new _ _;have SZ8:Hid (w.heap.size≤(wr.alloc (.cells (kdC ko).toArray 148)).heap.size):=F8.out.be.size;clear hF hB hbA;go_upto_region 19 with (first | (refine wpList_load_mid rfl 148 (.tmp 12) rfl gK 0 rfl _ _ HRG.out Tryz.underlying148 rfl (by rw [sl2];exact kd_size) ?_) | (refine wpList_bs1 rfl 88 148 (.tmp 70) (kdC ko) rfl rfl ik kdZ 257 Tryz.underlying88 hik hk0 hk1 kdZ_length sl2 (by omega) (by omega) ?_) | (at_builtin;refine wpList_append_kd rfl (.tmp 69) (.tmp 71) rfl w.heap.size v K rfl F8.out.own wr.heap.size ko rfl NB.out kol KLE SZ8.out ?_;intro v9 w9 hown9 hgrow9));have F9:=hide (F8.out.add hown9 hgrow9);clear hown9 hgrow9 F8 NB SZ8 HRG;go_wp2;go_roundg (q.firsts.length-(i+1))
       case measure=>omega
       case rel=>exact⟨i+1,v9,by omega,rfl,by go_num,rfl,by rw [KN.out];exact F9.out⟩
    ·have d2:=df_ (i:Int) (q.firsts.length:Int) (by omega)
     have ei:(Pure.kindsS ls ss).take i=Pure.kindsS ls ss:=List.take_of_length_le (by rw [KS.out,List.length_map];omega);rw [ei] at hF
     have LN:Hid (∀k∈Pure.kindsS ls ss,k.longer.length=256):=fun k hk=>by
      rw [KS.out] at hk;obtain⟨o,_,rfl⟩:=List.mem_map.1 hk;simp [Pure.kindOf]
     have FIN:Hid (RetKd (Pure.kindsS ls ss) w (.returned v) wr):=⟨v,rfl,hF.be,hF.own,LN.out⟩;clear hF;go_wp2;go_ret;exact FIN.out
end Go.Proofs.YtmccnmgaoppogaaGreat
