/-
 The walks: the document's Unpack, of bytes that begin well. (weirref)
-/
import Derived.Test.YtmccnmgaoppogaaGreatU1
namespace Go.Proofs.YtmccnmgaoppogaaGreat
set_option maxRecDepth 100000
set_option maxHeartbeats 8000000
open Go.RowKit
theorem refUnpack_long (s:ByteArray) (w:World) (hs:s.size≤9223372036854775807) (h6:6≤s.size) (h87:bt s 0=87) (h82:bt s 1=82) :
  Calls Tryz.prog 31 #[.string s] w (RetUnp 2 s w):=by
 obtain⟨i3,hi3,h30,h31,h32⟩:=info_parts Tryz.inff3
 obtain⟨ir,hir,hr0,hr1,hr2⟩:=info_parts Tryz.info59
 obtain⟨ic,hic,hc0,hc1,hc2⟩:=info_parts Tryz.info61
 have hd:decide ((s.size:Int)<6)=false:=by simp;omega
 have hw:((s.extract 0 2).toList == [87,82])=true:=by rw [wr_iff s h6];exact decide_eq_true ⟨h87,h82⟩
 have x2:=fun w=>idx_str s 2 2 rfl (by omega) w
 have x3:=fun w=>idx_str s 3 3 rfl (by omega) w
 have b2:=bt_bd s 2
 have b3:=bt_bd s 3
 have b4:=bt_bd s 4
 have b5:=bt_bd s 5
 have HF:Hid (Form s↔s.size=6+2*nE s+3*nR s+5*nC s):=⟨fun h=>h.2.2.2,fun h=>⟨h6,h87,h82,h⟩⟩
 have e2:bt s 2=((nE s:Nat):Int):=by unfold nE;omega
 have e3:bt s 3=((nR s:Nat):Int):=by unfold nR;omega
 have e4:pr s 4=((nC s:Nat):Int):=by
  have:pr s 4=bt s 4+bt s 5*256:=rfl;unfold nC;omega
 have hn:nC s≤65535:=by
  have:pr s 4=bt s 4+bt s 5*256:=rfl;omega
 rw [e2] at x2 b2
 rw [e3] at x3 b3
 have E4:=hide e4
 clear e2 e3 e4 h87 h82 b4 b5
 have k2:(2:Int)<(s.size:Int):=by omega
 have k3:(3:Int)<(s.size:Int):=by omega
 have HB0:=hide ((Below.refl w.heap.size w).alloc lr_ (.cells #[.slice none 0 0,.slice none 0 0,.slice none 0 0] 43))
 have HBK:Hid (Blk (w.alloc (.cells #[.slice none 0 0,.slice none 0 0,.slice none 0 0] 43)) w.heap.size 43 [.slice none 0 0,.slice none 0 0,.slice none 0 0]):=heap_alloc_new _ _
 go_enter Tryz.func31,Tryz.ntmps31
 go_wp2_with fail
 refine (refPair_any s 4 _ (by omega) (by omega) hs).mono ?_
 rintro e w1 ⟨rfl,nq,rfl⟩
 rw [show ((4:Int).toNat)=4 from rfl,E4.out]
 have bX:Below w.heap.size w ((w.alloc (.cells #[.slice none 0 0,.slice none 0 0,.slice none 0 0] 43)).drewN nq):=below_drewN HB0.out nq
 have kX:Blk ((w.alloc (.cells #[.slice none 0 0,.slice none 0 0,.slice none 0 0] 43)).drewN nq) w.heap.size 43 [.slice none 0 0,.slice none 0 0,.slice none 0 0]:=HBK.out
 have sX:((w.alloc (.cells #[.slice none 0 0,.slice none 0 0,.slice none 0 0] 43)).drewN nq).heap.size=w.heap.size+1:=by simp
 generalize (w.alloc (.cells #[.slice none 0 0,.slice none 0 0,.slice none 0 0] 43)).drewN nq=X at *
 clear x2 x3 HB0 HBK k2 k3 hd hw
 by_cases hsz:s.size=6+2*nE s+3*nR s+5*nC s
 ·have hb:((s.size:Int) != 6+2*(nE s:Int)+3*(nR s:Int)+5*(nC s:Int))=false:=by simp;omega
  have hl1:s.size≤6+2*nE s+3*nR s+5*nC s:=by omega
  have hl2:6+2*nE s+3*nR s+5*nC s≤s.size:=by omega
  have hszB:s.size≤400000:=by omega
  have HSZ:=hide hsz;clear hsz
  have T0:Hid (Two w (X.alloc (.cells #[.slice none 0 0,.slice none 0 0,.slice none 0 0] 43)) (.slice none 0 0) (.slice none 0 0) (.slice none 0 0)):=by
   refine⟨blk_alloc kX _,?_,bX.alloc (by omega) _,by simp;omega⟩;have:=heap_alloc_new X (.cells #[.slice none 0 0,.slice none 0 0,.slice none 0 0] 43);rw [sX] at this;exact this
  have hX:X.heap.size=w.heap.size+1:=sX;clear kX bX
  go_wp2_with fail
  generalize X.alloc (.cells #[.slice none 0 0,.slice none 0 0,.slice none 0 0] 43)=X1 at *;clear hX sX
  go_loopw [8,9] (fun av iv wr=>∃(k:Nat) (v:Value),k≤nE s∧iv=.int .i64 k∧av=.int .i64 ((6+2*k:Nat):Int)∧Two w wr v (.slice none 0 0) (.slice none 0 0)∧wr.ownsRow (w.heap.size+2) 3 1 v k (intCells (entsOf s 6 k))) (fun _ iv _=>nE s-(intOf iv).toNat)
  case atStart=>exact⟨0,_,Nat.zero_le _,rfl,rfl,T0.out,World.ownsRow_nil _ _ _ _⟩
  case round=>
   clear T0;obtain⟨k,v,hk,rfl,rfl,ht,hown⟩:=hrel;by_cases hlt:k<nE s
   ·generalize ha:6+2*k=a at *
    have hst:=ents_step s 6 k;rw [ha] at hst;have HST:Hid (intCells (entsOf s 6 (k+1))=intCells (entsOf s 6 k)++[.int .i64 (pr s a)]):=hst;have haB:a+2≤s.size:=by omega
    have HA:=hide ha;clear ha hst;have c0:=bc_ 0 ht.own rfl;have f0:=blk_frozen ht.own 0;have HT:=hide ht;have HO:=hide hown;have hsz:=ht.sz;clear ht hown
    go_wp2_with fail
    have toN:(a:Int).toNat=a:=Int.toNat_natCast a;have cAl:∀n o,((wr.drewN n).alloc o).cell? ⟨w.heap.size+1,0,none⟩=some v:=fun n o=>blk_cell (j:=0) (blk_alloc (blk_drew HT.out.own n) o) rfl
    refine wp_region_noPanic ?_
    refine wp_region_any (by kernel_rfl) ?_
    try (change wpAny _ _ _ _ _ _ _ (World.drew _))
    refine wpAny_take (i:=0) (v:=.pointer (some ⟨w.heap.size+1,0,none⟩)) rfl (by kernel_rfl) (by kernel_rfl) (by kernel_rfl) (fun _ _ _ h=>h) (Or.inl ⟨by rfl,fun _=>by go_simp⟩) ?_
    refine wpAny_take (i:=2) (v:=.string s) rfl (by kernel_rfl) (by kernel_rfl) (by kernel_rfl) (fun _ _ _ h=>h) (Or.inl ⟨by rfl,fun _=>by go_simp⟩) ?_
    refine wpAny_take (i:=3) (v:=.int .i64 (a:Int)) rfl (by kernel_rfl) (by kernel_rfl) (by kernel_rfl) (fun _ _ _ h=>h) (Or.inl ⟨by rfl,fun _=>by go_simp⟩) ?_
    refine wpAny_ready (rs:=[1,4]) (by kernel_rfl) (by simp) ?_
    refine AllReady.cons rfl (fun K hK=>?_) (AllReady.cons rfl (fun K hK=>?_) AllReady.nil)
    ·go_simp
     refine hK _ _ ?_
     clear hK K;refine wpAny_ready (rs:=[4]) (by kernel_rfl) (by simp) ?_
     refine AllReady.cons rfl (fun K hK=>?_) AllReady.nil
     go_simp
     refine (refPair_any s (a:Int) _ (by omega) (by omega) hs).mono ?_
     rintro e w' ⟨rfl,nd,rfl⟩;simp only [toN];refine hK _ _ ?_
     clear hK K;refine wpAny_ready (rs:=[5]) (by kernel_rfl) (by simp) ?_
     refine AllReady.cons rfl (fun K hK=>?_) AllReady.nil
     go_simp
     refine hK _ _ ?_
     clear hK K;refine wpAny_ready (rs:=[6]) (by kernel_rfl) (by simp) ?_
     refine AllReady.cons rfl (fun K hK=>?_) AllReady.nil;refine step_append_lies _ (by rfl) _ _ _ (by rfl) (w.heap.size+2) 3 i3 _ 1 8 Tryz.underlying31 hi3 h30 h31 h32 rfl (by omega) v k (intCells (entsOf s 6 k)) (by rfl) (World.ownsRow.alloc (own_drewN HO.out _) _) ⟨wr.heap.size,0,none⟩ 1 1 [.int .i64 (pr s a)] (by rfl) (by rfl) (World.news_of_block (cs:=#[.int .i64 (pr s a)]) (t:=3) (fr:=(0,0)) (heap_alloc_new _ _)) (by simp [Value.oneCell']) (by omega) (by unfold maxLen;omega) (by omega) (by simp;omega) (wr.heap.size+1) (by simp) ?_
     intro g2 cap2 w2 hown2 hgrow2 hat2 hlt2;have t2:=Two.step (Two.alloc (Two.drewN HT.out _) _) hgrow2 (fun k' h=>(World.ownsRow.lt HO.out k' h).1);have c2:=bc_ 0 t2.own rfl;have f2:=blk_frozen t2.own 0;refine hK _ _ ?_
     clear hK K;refine wpAny_take (i:=7) (v:=.pointer (some ⟨w.heap.size+1,0,none⟩)) rfl (by kernel_rfl) (by kernel_rfl) (by kernel_rfl) (fun _ _ _ h=>h) (Or.inl ⟨by rfl,fun _=>by go_simp⟩) ?_
     refine wpAny_ready (rs:=[8]) (by kernel_rfl) (by simp) ?_
     refine AllReady.cons rfl (fun K hK=>?_) AllReady.nil
     go_simp
     refine hK _ _ ?_
     clear hK K;refine wpAny_done (by kernel_rfl) ?_ _;refine NoPanic.normal ?_
     have t3:=t2.setE (.slice (some ⟨g2,0,none⟩) (k+1) cap2);have hown3:=ownsRow_setCell_below hown2 (a:=⟨w.heap.size+1,0,none⟩) (Nat.lt_succ_self _) (.slice (some ⟨g2,0,none⟩) (k+1) cap2);rw [←HST.out] at hown3;clear hown2 hgrow2 hat2 hlt2 t2 c2 f2 c0 f0;go_wp2
     go_roundw
     case rel=>exact⟨k+1,_,by omega,by go_num,by have:=HA.out;go_num,t3,hown3⟩
     case measure=>simp [intOf];omega
    ·go_simp
     refine (refPair_any s (a:Int) _ (by omega) (by omega) hs).mono ?_
     rintro e w' ⟨rfl,nd,rfl⟩;simp only [toN];refine hK _ _ ?_
     clear hK K;refine wpAny_ready (rs:=[1,5]) (by kernel_rfl) (by simp) ?_
     refine AllReady.cons rfl (fun K hK=>?_) (AllReady.cons rfl (fun K hK=>?_) AllReady.nil)
     ·go_simp
      refine hK _ _ ?_
      clear hK K;refine wpAny_ready (rs:=[5]) (by kernel_rfl) (by simp) ?_
      refine AllReady.cons rfl (fun K hK=>?_) AllReady.nil
      go_simp
      refine hK _ _ ?_
      clear hK K;refine wpAny_ready (rs:=[6]) (by kernel_rfl) (by simp) ?_
      refine AllReady.cons rfl (fun K hK=>?_) AllReady.nil;refine step_append_lies _ (by rfl) _ _ _ (by rfl) (w.heap.size+2) 3 i3 _ 1 8 Tryz.underlying31 hi3 h30 h31 h32 rfl (by omega) v k (intCells (entsOf s 6 k)) (by rfl) (World.ownsRow.alloc (own_drewN HO.out _) _) ⟨wr.heap.size,0,none⟩ 1 1 [.int .i64 (pr s a)] (by rfl) (by rfl) (World.news_of_block (cs:=#[.int .i64 (pr s a)]) (t:=3) (fr:=(0,0)) (heap_alloc_new _ _)) (by simp [Value.oneCell']) (by omega) (by unfold maxLen;omega) (by omega) (by simp;omega) (wr.heap.size+1) (by simp) ?_
      intro g2 cap2 w2 hown2 hgrow2 hat2 hlt2;have t2:=Two.step (Two.alloc (Two.drewN HT.out _) _) hgrow2 (fun k' h=>(World.ownsRow.lt HO.out k' h).1);have c2:=bc_ 0 t2.own rfl;have f2:=blk_frozen t2.own 0;refine hK _ _ ?_
      clear hK K;refine wpAny_take (i:=7) (v:=.pointer (some ⟨w.heap.size+1,0,none⟩)) rfl (by kernel_rfl) (by kernel_rfl) (by kernel_rfl) (fun _ _ _ h=>h) (Or.inl ⟨by rfl,fun _=>by go_simp⟩) ?_
      refine wpAny_ready (rs:=[8]) (by kernel_rfl) (by simp) ?_
      refine AllReady.cons rfl (fun K hK=>?_) AllReady.nil
      go_simp
      refine hK _ _ ?_
      clear hK K;refine wpAny_done (by kernel_rfl) ?_ _;refine NoPanic.normal ?_
      have t3:=t2.setE (.slice (some ⟨g2,0,none⟩) (k+1) cap2);have hown3:=ownsRow_setCell_below hown2 (a:=⟨w.heap.size+1,0,none⟩) (Nat.lt_succ_self _) (.slice (some ⟨g2,0,none⟩) (k+1) cap2);rw [←HST.out] at hown3;clear hown2 hgrow2 hat2 hlt2 t2 c2 f2 c0 f0;go_wp2
      go_roundw
      case rel=>exact⟨k+1,_,by omega,by go_num,by have:=HA.out;go_num,t3,hown3⟩
      case measure=>simp [intOf];omega
     ·go_simp
      refine hK _ _ ?_
      clear hK K;refine wpAny_ready (rs:=[1]) (by kernel_rfl) (by simp) ?_
      refine AllReady.cons rfl (fun K hK=>?_) AllReady.nil
      go_simp
      refine hK _ _ ?_
      clear hK K;refine wpAny_ready (rs:=[6]) (by kernel_rfl) (by simp) ?_
      refine AllReady.cons rfl (fun K hK=>?_) AllReady.nil;refine step_append_lies _ (by rfl) _ _ _ (by rfl) (w.heap.size+2) 3 i3 _ 1 8 Tryz.underlying31 hi3 h30 h31 h32 rfl (by omega) v k (intCells (entsOf s 6 k)) (by rfl) (World.ownsRow.alloc (own_drewN HO.out _) _) ⟨wr.heap.size,0,none⟩ 1 1 [.int .i64 (pr s a)] (by rfl) (by rfl) (World.news_of_block (cs:=#[.int .i64 (pr s a)]) (t:=3) (fr:=(0,0)) (heap_alloc_new _ _)) (by simp [Value.oneCell']) (by omega) (by unfold maxLen;omega) (by omega) (by simp;omega) (wr.heap.size+1) (by simp) ?_
      intro g2 cap2 w2 hown2 hgrow2 hat2 hlt2;have t2:=Two.step (Two.alloc (Two.drewN HT.out _) _) hgrow2 (fun k' h=>(World.ownsRow.lt HO.out k' h).1);have c2:=bc_ 0 t2.own rfl;have f2:=blk_frozen t2.own 0;refine hK _ _ ?_
      clear hK K;refine wpAny_take (i:=7) (v:=.pointer (some ⟨w.heap.size+1,0,none⟩)) rfl (by kernel_rfl) (by kernel_rfl) (by kernel_rfl) (fun _ _ _ h=>h) (Or.inl ⟨by rfl,fun _=>by go_simp⟩) ?_
      refine wpAny_ready (rs:=[8]) (by kernel_rfl) (by simp) ?_
      refine AllReady.cons rfl (fun K hK=>?_) AllReady.nil
      go_simp
      refine hK _ _ ?_
      clear hK K;refine wpAny_done (by kernel_rfl) ?_ _;refine NoPanic.normal ?_
      have t3:=t2.setE (.slice (some ⟨g2,0,none⟩) (k+1) cap2);have hown3:=ownsRow_setCell_below hown2 (a:=⟨w.heap.size+1,0,none⟩) (Nat.lt_succ_self _) (.slice (some ⟨g2,0,none⟩) (k+1) cap2);rw [←HST.out] at hown3;clear hown2 hgrow2 hat2 hlt2 t2 c2 f2 c0 f0;go_wp2
      go_roundw
      case rel=>exact⟨k+1,_,by omega,by go_num,by have:=HA.out;go_num,t3,hown3⟩
      case measure=>simp [intOf];omega
   ·have hke:k=nE s:=by omega
    subst hke;have HT1:=hide ht;have HE1:=hide hown;clear ht hown hlt hk;generalize v=ve at *
    go_wp2_with fail
    go_loopw [8,10] (fun av iv wr=>∃(k:Nat) (v:Value),k≤nR s∧iv=.int .i64 k∧av=.int .i64 ((6+2*nE s+3*k:Nat):Int)∧Two w wr ve v (.slice none 0 0)∧wr.ownsRow (w.heap.size+2) 3 1 ve (nE s) (intCells (entsOf s 6 (nE s)))∧wr.ownsRow (w.heap.size+2) 59 3 v k (ruleCells (rulesOf s (6+2*nE s) k))) (fun _ iv _=>nR s-(intOf iv).toNat)
    case atStart=>exact⟨0,_,Nat.zero_le _,rfl,rfl,HT1.out,HE1.out,World.ownsRow_nil _ _ _ _⟩
    case round=>
     clear HT1 HE1;obtain⟨k,v,hk,rfl,rfl,ht,hE,hown⟩:=hrel;by_cases hlt:k<nR s
     ·generalize ha:6+2*nE s+3*k=a at *
      have hst:=rules_step s (6+2*nE s) k;rw [ha] at hst;have hst2:=hst;clear hst;have HST:=hide hst2;clear hst2;have haB:a+3≤s.size:=by omega
      have HA:=hide ha;clear ha;have x0:=fun w=>idx_str s ((a:Int)) (a) (by omega) (by omega) w
      have b6:=bt_bd s (a);have x1:=fun w=>idx_str s ((a:Int)+1) (a+1) (by omega) (by omega) w
      have b7:=bt_bd s (a+1);have x2:=fun w=>idx_str s ((a:Int)+2) (a+2) (by omega) (by omega) w
      have b8:=bt_bd s (a+2);generalize bt s (a)=p0 at *;generalize bt s (a+1)=p1 at *;generalize bt s (a+2)=p2 at *;have wp0:IntKind.i64.wrap p0=p0:=wrap_in _ (by omega) (by omega);have wp1:IntKind.i64.wrap p1=p1:=wrap_in _ (by omega) (by omega);have wp2:IntKind.i64.wrap p2=p2:=wrap_in _ (by omega) (by omega);have j0:=nz_ a;have q0:(a:Int)<(s.size:Int):=by omega
      have j1:(0:Int)≤(a:Int)+1:=by omega
      have q1:(a:Int)+1<(s.size:Int):=by omega
      have wr1:=wr_ (a:Int) (by omega) (by omega);have j2:(0:Int)≤(a:Int)+2:=by omega
      have q2:(a:Int)+2<(s.size:Int):=by omega
      have wr2:IntKind.i64.wrap ((a:Int)+2)=(a:Int)+2:=wrap_in _ (by omega) (by omega);have c0:=bc_ 1 ht.own rfl;have HT:=hide ht;have HO:=hide hown;have HE:=hide hE;have hsz:=ht.sz;have cAl:∀n o,((wr.drewN n).alloc o).cell? ⟨w.heap.size+1,1,none⟩=some v:=fun n o=>blk_cell (j:=1) (blk_alloc (blk_drew HT.out.own n) o) rfl
      have cAm:∀o,((wr.alloc o).drew).cell? ⟨w.heap.size+1,1,none⟩=some v:=fun o=>blk_cell (j:=1) (blk_alloc HT.out.own o) rfl
      clear ht hown hE
      go_wp2_with fail
      refine wp_region_noPanic ?_
      refine wp_region_any (by kernel_rfl) ?_
      try (change wpAny _ _ _ _ _ _ _ (World.drew _))
      refine wpAny_take (i:=0) (v:=.pointer (some ⟨w.heap.size+1,1,none⟩)) rfl (by kernel_rfl) (by kernel_rfl) (by kernel_rfl) (fun _ _ _ h=>h) (Or.inl ⟨by rfl,fun _=>by go_simp⟩) ?_
      refine wpAny_take (i:=2) (v:=.string s) rfl (by kernel_rfl) (by kernel_rfl) (by kernel_rfl) (fun _ _ _ h=>h) (Or.inl ⟨by rfl,fun _=>by go_simp⟩) ?_
      refine wpAny_take (i:=3) (v:=.int .i64 (a:Int)) rfl (by kernel_rfl) (by kernel_rfl) (by kernel_rfl) (fun _ _ _ h=>h) (Or.inl ⟨by rfl,fun _=>by go_simp⟩) ?_
      refine wpAny_take (i:=4) (v:=.int .u8 p0) rfl (by kernel_rfl) (by kernel_rfl) (by kernel_rfl) (fun _ _ _ h=>h) (Or.inl ⟨by rfl,fun _=>by go_simp⟩) ?_
      refine wpAny_take (i:=5) (v:=.int .i64 p0) rfl (by kernel_rfl) (by kernel_rfl) (by kernel_rfl) (fun _ _ _ h=>h) (Or.inl ⟨by rfl,fun _=>by go_simp⟩) ?_
      refine wpAny_take (i:=6) (v:=.string s) rfl (by kernel_rfl) (by kernel_rfl) (by kernel_rfl) (fun _ _ _ h=>h) (Or.inl ⟨by rfl,fun _=>by go_simp⟩) ?_
      refine wpAny_take (i:=7) (v:=.int .i64 (a:Int)) rfl (by kernel_rfl) (by kernel_rfl) (by kernel_rfl) (fun _ _ _ h=>h) (Or.inl ⟨by rfl,fun _=>by go_simp⟩) ?_
      refine wpAny_take (i:=8) (v:=.int .i64 ((a:Int)+1)) rfl (by kernel_rfl) (by kernel_rfl) (by kernel_rfl) (fun _ _ _ h=>h) (Or.inl ⟨by rfl,fun _=>by go_simp⟩) ?_
      refine wpAny_take (i:=9) (v:=.int .u8 p1) rfl (by kernel_rfl) (by kernel_rfl) (by kernel_rfl) (fun _ _ _ h=>h) (Or.inl ⟨by rfl,fun _=>by go_simp⟩) ?_
      refine wpAny_take (i:=10) (v:=.int .i64 p1) rfl (by kernel_rfl) (by kernel_rfl) (by kernel_rfl) (fun _ _ _ h=>h) (Or.inl ⟨by rfl,fun _=>by go_simp⟩) ?_
      refine wpAny_take (i:=11) (v:=.string s) rfl (by kernel_rfl) (by kernel_rfl) (by kernel_rfl) (fun _ _ _ h=>h) (Or.inl ⟨by rfl,fun _=>by go_simp⟩) ?_
      refine wpAny_take (i:=12) (v:=.int .i64 (a:Int)) rfl (by kernel_rfl) (by kernel_rfl) (by kernel_rfl) (fun _ _ _ h=>h) (Or.inl ⟨by rfl,fun _=>by go_simp⟩) ?_
      refine wpAny_take (i:=13) (v:=.int .i64 ((a:Int)+2)) rfl (by kernel_rfl) (by kernel_rfl) (by kernel_rfl) (fun _ _ _ h=>h) (Or.inl ⟨by rfl,fun _=>by go_simp⟩) ?_
      refine wpAny_take (i:=14) (v:=.int .u8 p2) rfl (by kernel_rfl) (by kernel_rfl) (by kernel_rfl) (fun _ _ _ h=>h) (Or.inl ⟨by rfl,fun _=>by go_simp⟩) ?_
      refine wpAny_take (i:=15) (v:=.int .i64 p2) rfl (by kernel_rfl) (by kernel_rfl) (by kernel_rfl) (fun _ _ _ h=>h) (Or.inl ⟨by rfl,fun _=>by go_simp⟩) ?_
      refine wpAny_take (i:=16) (v:=.agg #[.int .i64 p0,.int .i64 p1,.int .i64 p2]) rfl (by kernel_rfl) (by kernel_rfl) (by kernel_rfl) (fun _ _ _ h=>h) (Or.inl ⟨by rfl,fun _=>by go_simp⟩) ?_
      refine wpAny_ready (rs:=[1,17]) (by kernel_rfl) (by simp) ?_
      refine AllReady.cons rfl (fun K hK=>?_) (AllReady.cons rfl (fun K hK=>?_) AllReady.nil)
      ·go_simp
       refine hK _ _ ?_
       clear hK K;refine wpAny_ready (rs:=[17]) (by kernel_rfl) (by simp) ?_
       refine AllReady.cons rfl (fun K hK=>?_) AllReady.nil
       go_simp
       refine hK _ _ ?_
       clear hK K;refine wpAny_ready (rs:=[18]) (by kernel_rfl) (by simp) ?_
       refine AllReady.cons rfl (fun K hK=>?_) AllReady.nil;refine step_append_lies _ (by rfl) _ _ _ (by rfl) (w.heap.size+2) 59 ir _ 3 24 Tryz.underlying40 hir hr0 hr1 hr2 rfl (by omega) v k (ruleCells (rulesOf s (6+2*nE s) k)) (by rfl) (World.ownsRow.alloc (own_drewN HO.out 1) _) ⟨wr.heap.size,0,none⟩ 1 1 [.int .i64 p0,.int .i64 p1,.int .i64 p2] (by rfl) (by rfl) (World.news_of_block (cs:=#[.int .i64 p0,.int .i64 p1,.int .i64 p2]) (t:=59) (fr:=(0,0)) (heap_alloc_new _ _)) (by simp [Value.oneCell']) (by omega) (by unfold maxLen;omega) (by omega) (by simp;omega) (wr.heap.size+1) (by simp) ?_
       intro g2 cap2 w2 hown2 hgrow2 hat2 hlt2;have t2:=Two.step (Two.alloc (Two.drewN HT.out _) _) hgrow2 (fun k' h=>(World.ownsRow.lt HO.out k' h).1);have e2:=own_other (World.ownsRow.alloc (own_drewN HE.out _) _) (World.ownsRow.alloc (own_drewN HO.out _) _) (by decide) hgrow2;have c2:=bc_ 1 t2.own rfl;have f2:=blk_frozen t2.own 1;refine hK _ _ ?_
       clear hK K;refine wpAny_take (i:=19) (v:=.pointer (some ⟨w.heap.size+1,1,none⟩)) rfl (by kernel_rfl) (by kernel_rfl) (by kernel_rfl) (fun _ _ _ h=>h) (Or.inl ⟨by rfl,fun _=>by go_simp⟩) ?_
       refine wpAny_ready (rs:=[20]) (by kernel_rfl) (by simp) ?_
       refine AllReady.cons rfl (fun K hK=>?_) AllReady.nil
       go_simp
       refine hK _ _ ?_
       clear hK K;refine wpAny_done (by kernel_rfl) ?_ _;refine NoPanic.normal ?_
       have t3:=t2.setR (.slice (some ⟨g2,0,none⟩) (k+1) cap2);have hown3:=ownsRow_setCell_below hown2 (a:=⟨w.heap.size+1,1,none⟩) (Nat.lt_succ_self _) (.slice (some ⟨g2,0,none⟩) (k+1) cap2);have e3:=ownsRow_setCell_below e2 (a:=⟨w.heap.size+1,1,none⟩) (Nat.lt_succ_self _) (.slice (some ⟨g2,0,none⟩) (k+1) cap2);rw [←HST.out] at hown3;clear hown2 hgrow2 hat2 hlt2 t2 c2 f2 c0 e2 x0 x1 x2 cAl cAm;go_wp2
       go_roundw
       case rel=>exact⟨k+1,_,by omega,by go_num,by have:=HA.out;go_num,t3,e3,hown3⟩
       case measure=>simp [intOf];omega
      ·go_simp
       refine hK _ _ ?_
       clear hK K;refine wpAny_ready (rs:=[1]) (by kernel_rfl) (by simp) ?_
       refine AllReady.cons rfl (fun K hK=>?_) AllReady.nil
       go_simp
       refine hK _ _ ?_
       clear hK K;refine wpAny_ready (rs:=[18]) (by kernel_rfl) (by simp) ?_
       refine AllReady.cons rfl (fun K hK=>?_) AllReady.nil;refine step_append_lies _ (by rfl) _ _ _ (by rfl) (w.heap.size+2) 59 ir _ 3 24 Tryz.underlying40 hir hr0 hr1 hr2 rfl (by omega) v k (ruleCells (rulesOf s (6+2*nE s) k)) (by rfl) (World.ownsRow.alloc (own_drewN HO.out 1) _) ⟨wr.heap.size,0,none⟩ 1 1 [.int .i64 p0,.int .i64 p1,.int .i64 p2] (by rfl) (by rfl) (World.news_of_block (cs:=#[.int .i64 p0,.int .i64 p1,.int .i64 p2]) (t:=59) (fr:=(0,0)) (heap_alloc_new _ _)) (by simp [Value.oneCell']) (by omega) (by unfold maxLen;omega) (by omega) (by simp;omega) (wr.heap.size+1) (by simp) ?_
       intro g2 cap2 w2 hown2 hgrow2 hat2 hlt2;have t2:=Two.step (Two.alloc (Two.drewN HT.out _) _) hgrow2 (fun k' h=>(World.ownsRow.lt HO.out k' h).1);have e2:=own_other (World.ownsRow.alloc (own_drewN HE.out _) _) (World.ownsRow.alloc (own_drewN HO.out _) _) (by decide) hgrow2;have c2:=bc_ 1 t2.own rfl;have f2:=blk_frozen t2.own 1;refine hK _ _ ?_
       clear hK K;refine wpAny_take (i:=19) (v:=.pointer (some ⟨w.heap.size+1,1,none⟩)) rfl (by kernel_rfl) (by kernel_rfl) (by kernel_rfl) (fun _ _ _ h=>h) (Or.inl ⟨by rfl,fun _=>by go_simp⟩) ?_
       refine wpAny_ready (rs:=[20]) (by kernel_rfl) (by simp) ?_
       refine AllReady.cons rfl (fun K hK=>?_) AllReady.nil
       go_simp
       refine hK _ _ ?_
       clear hK K;refine wpAny_done (by kernel_rfl) ?_ _;refine NoPanic.normal ?_
       have t3:=t2.setR (.slice (some ⟨g2,0,none⟩) (k+1) cap2);have hown3:=ownsRow_setCell_below hown2 (a:=⟨w.heap.size+1,1,none⟩) (Nat.lt_succ_self _) (.slice (some ⟨g2,0,none⟩) (k+1) cap2);have e3:=ownsRow_setCell_below e2 (a:=⟨w.heap.size+1,1,none⟩) (Nat.lt_succ_self _) (.slice (some ⟨g2,0,none⟩) (k+1) cap2);rw [←HST.out] at hown3;clear hown2 hgrow2 hat2 hlt2 t2 c2 f2 c0 e2 x0 x1 x2 cAl cAm;go_wp2
       go_roundw
       case rel=>exact⟨k+1,_,by omega,by go_num,by have:=HA.out;go_num,t3,e3,hown3⟩
       case measure=>simp [intOf];omega
     ·have hke:k=nR s:=by omega
      subst hke;have HT2:=hide ht;have HE2:=hide hE;have HR2:=hide hown;clear ht hown hE hlt hk;generalize v=vr at *
      go_wp2_with fail
      go_loopw [8,11] (fun av iv wr=>∃(k:Nat) (v:Value),k≤nC s∧iv=.int .i64 k∧av=.int .i64 ((6+2*nE s+3*nR s+5*k:Nat):Int)∧Two w wr ve vr v∧wr.ownsRow (w.heap.size+2) 3 1 ve (nE s) (intCells (entsOf s 6 (nE s)))∧wr.ownsRow (w.heap.size+2) 59 3 vr (nR s) (ruleCells (rulesOf s (6+2*nE s) (nR s)))∧wr.ownsRow (w.heap.size+2) 61 4 v k (insCells (codeOf s (6+2*nE s+3*nR s) k))) (fun _ iv _=>nC s-(intOf iv).toNat)
      case atStart=>exact⟨0,_,Nat.zero_le _,rfl,rfl,HT2.out,HE2.out,HR2.out,World.ownsRow_nil _ _ _ _⟩
      case round=>
       clear HT2 HE2 HR2;obtain⟨k,v,hk,rfl,rfl,ht,hE,hR,hown⟩:=hrel;by_cases hlt:k<nC s
       ·generalize ha:6+2*nE s+3*nR s+5*k=a at *
        have hst:=code_step s (6+2*nE s+3*nR s) k;rw [ha] at hst;have hst2:insCells (codeOf s (6+2*nE s+3*nR s) (k+1))=insCells (codeOf s (6+2*nE s+3*nR s) k)++[.int .i64 (bt s a),.int .i64 (bt s (a+1)),.int .i64 (bt s (a+2)),.int .i64 (pr s (a+3))]:=hst;clear hst;have HST:=hide hst2;clear hst2;have haB:a+5≤s.size:=by omega
        have HA:=hide ha;clear ha;have x0:=fun w=>idx_str s ((a:Int)) (a) (by omega) (by omega) w
        have b6:=bt_bd s (a);have x1:=fun w=>idx_str s ((a:Int)+1) (a+1) (by omega) (by omega) w
        have b7:=bt_bd s (a+1);have x2:=fun w=>idx_str s ((a:Int)+2) (a+2) (by omega) (by omega) w
        have b8:=bt_bd s (a+2);generalize bt s (a)=p0 at *;generalize bt s (a+1)=p1 at *;generalize bt s (a+2)=p2 at *;have wp0:IntKind.i64.wrap p0=p0:=wrap_in _ (by omega) (by omega);have wp1:IntKind.i64.wrap p1=p1:=wrap_in _ (by omega) (by omega);have wp2:IntKind.i64.wrap p2=p2:=wrap_in _ (by omega) (by omega);have j0:=nz_ a;have q0:(a:Int)<(s.size:Int):=by omega
        have j1:(0:Int)≤(a:Int)+1:=by omega
        have q1:(a:Int)+1<(s.size:Int):=by omega
        have wr1:=wr_ (a:Int) (by omega) (by omega);have j2:(0:Int)≤(a:Int)+2:=by omega
        have q2:(a:Int)+2<(s.size:Int):=by omega
        have wr2:IntKind.i64.wrap ((a:Int)+2)=(a:Int)+2:=wrap_in _ (by omega) (by omega);have j3:(0:Int)≤(a:Int)+3:=by omega
        have q3:(a:Int)+3<(s.size:Int):=by omega
        have wr3:IntKind.i64.wrap ((a:Int)+3)=(a:Int)+3:=wrap_in _ (by omega) (by omega);have c0:=bc_ 2 ht.own rfl;have HT:=hide ht;have HO:=hide hown;have HE:=hide hE;have HRR:=hide hR;have hsz:=ht.sz;have cAl:∀n o,((wr.drewN n).alloc o).cell? ⟨w.heap.size+1,2,none⟩=some v:=fun n o=>blk_cell (j:=2) (blk_alloc (blk_drew HT.out.own n) o) rfl
        have cAm:∀o,((wr.alloc o).drew).cell? ⟨w.heap.size+1,2,none⟩=some v:=fun o=>blk_cell (j:=2) (blk_alloc HT.out.own o) rfl
        clear ht hown hE hR;have toN:((a:Int)+3).toNat=a+3:=by omega
        go_wp2_with fail
        refine wp_region_noPanic ?_
        refine wp_region_any (by kernel_rfl) ?_
        try (change wpAny _ _ _ _ _ _ _ (World.drew _))
        refine wpAny_take (i:=0) (v:=.pointer (some ⟨w.heap.size+1,2,none⟩)) rfl (by kernel_rfl) (by kernel_rfl) (by kernel_rfl) (fun _ _ _ h=>h) (Or.inl ⟨by rfl,fun _=>by go_simp⟩) ?_
        refine wpAny_take (i:=2) (v:=.string s) rfl (by kernel_rfl) (by kernel_rfl) (by kernel_rfl) (fun _ _ _ h=>h) (Or.inl ⟨by rfl,fun _=>by go_simp⟩) ?_
        refine wpAny_take (i:=3) (v:=.int .i64 (a:Int)) rfl (by kernel_rfl) (by kernel_rfl) (by kernel_rfl) (fun _ _ _ h=>h) (Or.inl ⟨by rfl,fun _=>by go_simp⟩) ?_
        refine wpAny_take (i:=4) (v:=.int .u8 p0) rfl (by kernel_rfl) (by kernel_rfl) (by kernel_rfl) (fun _ _ _ h=>h) (Or.inl ⟨by rfl,fun _=>by go_simp⟩) ?_
        refine wpAny_take (i:=5) (v:=.int .i64 p0) rfl (by kernel_rfl) (by kernel_rfl) (by kernel_rfl) (fun _ _ _ h=>h) (Or.inl ⟨by rfl,fun _=>by go_simp⟩) ?_
        refine wpAny_take (i:=6) (v:=.string s) rfl (by kernel_rfl) (by kernel_rfl) (by kernel_rfl) (fun _ _ _ h=>h) (Or.inl ⟨by rfl,fun _=>by go_simp⟩) ?_
        refine wpAny_take (i:=7) (v:=.int .i64 (a:Int)) rfl (by kernel_rfl) (by kernel_rfl) (by kernel_rfl) (fun _ _ _ h=>h) (Or.inl ⟨by rfl,fun _=>by go_simp⟩) ?_
        refine wpAny_take (i:=8) (v:=.int .i64 ((a:Int)+1)) rfl (by kernel_rfl) (by kernel_rfl) (by kernel_rfl) (fun _ _ _ h=>h) (Or.inl ⟨by rfl,fun _=>by go_simp⟩) ?_
        refine wpAny_take (i:=9) (v:=.int .u8 p1) rfl (by kernel_rfl) (by kernel_rfl) (by kernel_rfl) (fun _ _ _ h=>h) (Or.inl ⟨by rfl,fun _=>by go_simp⟩) ?_
        refine wpAny_take (i:=10) (v:=.int .i64 p1) rfl (by kernel_rfl) (by kernel_rfl) (by kernel_rfl) (fun _ _ _ h=>h) (Or.inl ⟨by rfl,fun _=>by go_simp⟩) ?_
        refine wpAny_take (i:=11) (v:=.string s) rfl (by kernel_rfl) (by kernel_rfl) (by kernel_rfl) (fun _ _ _ h=>h) (Or.inl ⟨by rfl,fun _=>by go_simp⟩) ?_
        refine wpAny_take (i:=12) (v:=.int .i64 (a:Int)) rfl (by kernel_rfl) (by kernel_rfl) (by kernel_rfl) (fun _ _ _ h=>h) (Or.inl ⟨by rfl,fun _=>by go_simp⟩) ?_
        refine wpAny_take (i:=13) (v:=.int .i64 ((a:Int)+2)) rfl (by kernel_rfl) (by kernel_rfl) (by kernel_rfl) (fun _ _ _ h=>h) (Or.inl ⟨by rfl,fun _=>by go_simp⟩) ?_
        refine wpAny_take (i:=14) (v:=.int .u8 p2) rfl (by kernel_rfl) (by kernel_rfl) (by kernel_rfl) (fun _ _ _ h=>h) (Or.inl ⟨by rfl,fun _=>by go_simp⟩) ?_
        refine wpAny_take (i:=15) (v:=.int .i64 p2) rfl (by kernel_rfl) (by kernel_rfl) (by kernel_rfl) (fun _ _ _ h=>h) (Or.inl ⟨by rfl,fun _=>by go_simp⟩) ?_
        refine wpAny_take (i:=16) (v:=.string s) rfl (by kernel_rfl) (by kernel_rfl) (by kernel_rfl) (fun _ _ _ h=>h) (Or.inl ⟨by rfl,fun _=>by go_simp⟩) ?_
        refine wpAny_take (i:=17) (v:=.int .i64 (a:Int)) rfl (by kernel_rfl) (by kernel_rfl) (by kernel_rfl) (fun _ _ _ h=>h) (Or.inl ⟨by rfl,fun _=>by go_simp⟩) ?_
        refine wpAny_take (i:=18) (v:=.int .i64 ((a:Int)+3)) rfl (by kernel_rfl) (by kernel_rfl) (by kernel_rfl) (fun _ _ _ h=>h) (Or.inl ⟨by rfl,fun _=>by go_simp⟩) ?_
        refine wpAny_ready (rs:=[1,19]) (by kernel_rfl) (by simp) ?_
        refine AllReady.cons rfl (fun K hK=>?_) (AllReady.cons rfl (fun K hK=>?_) AllReady.nil)
        ·go_simp
         refine hK _ _ ?_
         clear hK K;refine wpAny_ready (rs:=[19]) (by kernel_rfl) (by simp) ?_
         refine AllReady.cons rfl (fun K hK=>?_) AllReady.nil
         go_simp
         refine (refPair_any s ((a:Int)+3) _ (by omega) (by omega) hs).mono ?_
         rintro e w' ⟨rfl,nd,rfl⟩;simp only [toN];refine hK _ _ ?_
         clear hK K;refine wpAny_take (i:=20) (v:=.agg #[.int .i64 p0,.int .i64 p1,.int .i64 p2,.int .i64 (pr s (a+3))]) rfl (by kernel_rfl) (by kernel_rfl) (by kernel_rfl) (fun _ _ _ h=>h) (Or.inl ⟨by rfl,fun _=>by go_simp⟩) ?_
         refine wpAny_ready (rs:=[21]) (by kernel_rfl) (by simp) ?_
         refine AllReady.cons rfl (fun K hK=>?_) AllReady.nil
         go_simp
         refine hK _ _ ?_
         clear hK K;refine wpAny_ready (rs:=[22]) (by kernel_rfl) (by simp) ?_
         refine AllReady.cons rfl (fun K hK=>?_) AllReady.nil;refine step_append_lies _ (by rfl) _ _ _ (by rfl) (w.heap.size+2) 61 ic _ 4 32 Tryz.underlying41 hic hc0 hc1 hc2 rfl (by omega) v k (insCells (codeOf s (6+2*nE s+3*nR s) k)) (by rfl) (World.ownsRow.alloc (own_drewN HO.out _) _) ⟨wr.heap.size,0,none⟩ 1 1 [.int .i64 p0,.int .i64 p1,.int .i64 p2,.int .i64 (pr s (a+3))] (by rfl) (by rfl) (World.news_of_block (cs:=#[.int .i64 p0,.int .i64 p1,.int .i64 p2,.int .i64 (pr s (a+3))]) (t:=61) (fr:=(0,0)) (heap_alloc_new _ _)) (by simp [Value.oneCell']) (by omega) (by unfold maxLen;omega) (by omega) (by simp;omega) (wr.heap.size+1) (by simp) ?_
         intro g2 cap2 w2 hown2 hgrow2 hat2 hlt2;have t2:=Two.step (Two.alloc (Two.drewN HT.out _) _) hgrow2 (fun k' h=>(World.ownsRow.lt HO.out k' h).1);have e2:=own_other (World.ownsRow.alloc (own_drewN HE.out _) _) (World.ownsRow.alloc (own_drewN HO.out _) _) (by decide) hgrow2;have r2:=own_other (World.ownsRow.alloc (own_drewN HRR.out _) _) (World.ownsRow.alloc (own_drewN HO.out _) _) (by decide) hgrow2;have c2:=bc_ 2 t2.own rfl;have f2:=blk_frozen t2.own 2;refine hK _ _ ?_
         clear hK K;refine wpAny_take (i:=23) (v:=.pointer (some ⟨w.heap.size+1,2,none⟩)) rfl (by kernel_rfl) (by kernel_rfl) (by kernel_rfl) (fun _ _ _ h=>h) (Or.inl ⟨by rfl,fun _=>by go_simp⟩) ?_
         refine wpAny_ready (rs:=[24]) (by kernel_rfl) (by simp) ?_
         refine AllReady.cons rfl (fun K hK=>?_) AllReady.nil
         go_simp
         refine hK _ _ ?_
         clear hK K;refine wpAny_done (by kernel_rfl) ?_ _;refine NoPanic.normal ?_
         have t3:=t2.setC (.slice (some ⟨g2,0,none⟩) (k+1) cap2);have hown3:=ownsRow_setCell_below hown2 (a:=⟨w.heap.size+1,2,none⟩) (Nat.lt_succ_self _) (.slice (some ⟨g2,0,none⟩) (k+1) cap2);have e3:=ownsRow_setCell_below e2 (a:=⟨w.heap.size+1,2,none⟩) (Nat.lt_succ_self _) (.slice (some ⟨g2,0,none⟩) (k+1) cap2);have r3:=ownsRow_setCell_below r2 (a:=⟨w.heap.size+1,2,none⟩) (Nat.lt_succ_self _) (.slice (some ⟨g2,0,none⟩) (k+1) cap2);rw [←HST.out] at hown3;clear hown2 hgrow2 hat2 hlt2 t2 c2 f2 c0 e2 r2 x0 x1 x2 cAl cAm;go_wp2
         go_roundw
         case rel=>exact⟨k+1,_,by omega,by go_num,by have:=HA.out;go_num,t3,e3,r3,hown3⟩
         case measure=>simp [intOf];omega
        ·go_simp
         refine (refPair_any s ((a:Int)+3) _ (by omega) (by omega) hs).mono ?_
         rintro e w' ⟨rfl,nd,rfl⟩;simp only [toN];refine hK _ _ ?_
         clear hK K;refine wpAny_take (i:=20) (v:=.agg #[.int .i64 p0,.int .i64 p1,.int .i64 p2,.int .i64 (pr s (a+3))]) rfl (by kernel_rfl) (by kernel_rfl) (by kernel_rfl) (fun _ _ _ h=>h) (Or.inl ⟨by rfl,fun _=>by go_simp⟩) ?_
         refine wpAny_ready (rs:=[1,21]) (by kernel_rfl) (by simp) ?_
         refine AllReady.cons rfl (fun K hK=>?_) (AllReady.cons rfl (fun K hK=>?_) AllReady.nil)
         ·go_simp
          refine hK _ _ ?_
          clear hK K;refine wpAny_ready (rs:=[21]) (by kernel_rfl) (by simp) ?_
          refine AllReady.cons rfl (fun K hK=>?_) AllReady.nil
          go_simp
          refine hK _ _ ?_
          clear hK K;refine wpAny_ready (rs:=[22]) (by kernel_rfl) (by simp) ?_
          refine AllReady.cons rfl (fun K hK=>?_) AllReady.nil;refine step_append_lies _ (by rfl) _ _ _ (by rfl) (w.heap.size+2) 61 ic _ 4 32 Tryz.underlying41 hic hc0 hc1 hc2 rfl (by omega) v k (insCells (codeOf s (6+2*nE s+3*nR s) k)) (by rfl) (World.ownsRow.alloc (own_drewN HO.out _) _) ⟨wr.heap.size,0,none⟩ 1 1 [.int .i64 p0,.int .i64 p1,.int .i64 p2,.int .i64 (pr s (a+3))] (by rfl) (by rfl) (World.news_of_block (cs:=#[.int .i64 p0,.int .i64 p1,.int .i64 p2,.int .i64 (pr s (a+3))]) (t:=61) (fr:=(0,0)) (heap_alloc_new _ _)) (by simp [Value.oneCell']) (by omega) (by unfold maxLen;omega) (by omega) (by simp;omega) (wr.heap.size+1) (by simp) ?_
          intro g2 cap2 w2 hown2 hgrow2 hat2 hlt2;have t2:=Two.step (Two.alloc (Two.drewN HT.out _) _) hgrow2 (fun k' h=>(World.ownsRow.lt HO.out k' h).1);have e2:=own_other (World.ownsRow.alloc (own_drewN HE.out _) _) (World.ownsRow.alloc (own_drewN HO.out _) _) (by decide) hgrow2;have r2:=own_other (World.ownsRow.alloc (own_drewN HRR.out _) _) (World.ownsRow.alloc (own_drewN HO.out _) _) (by decide) hgrow2;have c2:=bc_ 2 t2.own rfl;have f2:=blk_frozen t2.own 2;refine hK _ _ ?_
          clear hK K;refine wpAny_take (i:=23) (v:=.pointer (some ⟨w.heap.size+1,2,none⟩)) rfl (by kernel_rfl) (by kernel_rfl) (by kernel_rfl) (fun _ _ _ h=>h) (Or.inl ⟨by rfl,fun _=>by go_simp⟩) ?_
          refine wpAny_ready (rs:=[24]) (by kernel_rfl) (by simp) ?_
          refine AllReady.cons rfl (fun K hK=>?_) AllReady.nil
          go_simp
          refine hK _ _ ?_
          clear hK K;refine wpAny_done (by kernel_rfl) ?_ _;refine NoPanic.normal ?_
          have t3:=t2.setC (.slice (some ⟨g2,0,none⟩) (k+1) cap2);have hown3:=ownsRow_setCell_below hown2 (a:=⟨w.heap.size+1,2,none⟩) (Nat.lt_succ_self _) (.slice (some ⟨g2,0,none⟩) (k+1) cap2);have e3:=ownsRow_setCell_below e2 (a:=⟨w.heap.size+1,2,none⟩) (Nat.lt_succ_self _) (.slice (some ⟨g2,0,none⟩) (k+1) cap2);have r3:=ownsRow_setCell_below r2 (a:=⟨w.heap.size+1,2,none⟩) (Nat.lt_succ_self _) (.slice (some ⟨g2,0,none⟩) (k+1) cap2);rw [←HST.out] at hown3;clear hown2 hgrow2 hat2 hlt2 t2 c2 f2 c0 e2 r2 x0 x1 x2 cAl cAm;go_wp2
          go_roundw
          case rel=>exact⟨k+1,_,by omega,by go_num,by have:=HA.out;go_num,t3,e3,r3,hown3⟩
          case measure=>simp [intOf];omega
         ·go_simp
          refine hK _ _ ?_
          clear hK K;refine wpAny_ready (rs:=[1]) (by kernel_rfl) (by simp) ?_
          refine AllReady.cons rfl (fun K hK=>?_) AllReady.nil
          go_simp
          refine hK _ _ ?_
          clear hK K;refine wpAny_ready (rs:=[22]) (by kernel_rfl) (by simp) ?_
          refine AllReady.cons rfl (fun K hK=>?_) AllReady.nil;refine step_append_lies _ (by rfl) _ _ _ (by rfl) (w.heap.size+2) 61 ic _ 4 32 Tryz.underlying41 hic hc0 hc1 hc2 rfl (by omega) v k (insCells (codeOf s (6+2*nE s+3*nR s) k)) (by rfl) (World.ownsRow.alloc (own_drewN HO.out _) _) ⟨wr.heap.size,0,none⟩ 1 1 [.int .i64 p0,.int .i64 p1,.int .i64 p2,.int .i64 (pr s (a+3))] (by rfl) (by rfl) (World.news_of_block (cs:=#[.int .i64 p0,.int .i64 p1,.int .i64 p2,.int .i64 (pr s (a+3))]) (t:=61) (fr:=(0,0)) (heap_alloc_new _ _)) (by simp [Value.oneCell']) (by omega) (by unfold maxLen;omega) (by omega) (by simp;omega) (wr.heap.size+1) (by simp) ?_
          intro g2 cap2 w2 hown2 hgrow2 hat2 hlt2;have t2:=Two.step (Two.alloc (Two.drewN HT.out _) _) hgrow2 (fun k' h=>(World.ownsRow.lt HO.out k' h).1);have e2:=own_other (World.ownsRow.alloc (own_drewN HE.out _) _) (World.ownsRow.alloc (own_drewN HO.out _) _) (by decide) hgrow2;have r2:=own_other (World.ownsRow.alloc (own_drewN HRR.out _) _) (World.ownsRow.alloc (own_drewN HO.out _) _) (by decide) hgrow2;have c2:=bc_ 2 t2.own rfl;have f2:=blk_frozen t2.own 2;refine hK _ _ ?_
          clear hK K;refine wpAny_take (i:=23) (v:=.pointer (some ⟨w.heap.size+1,2,none⟩)) rfl (by kernel_rfl) (by kernel_rfl) (by kernel_rfl) (fun _ _ _ h=>h) (Or.inl ⟨by rfl,fun _=>by go_simp⟩) ?_
          refine wpAny_ready (rs:=[24]) (by kernel_rfl) (by simp) ?_
          refine AllReady.cons rfl (fun K hK=>?_) AllReady.nil
          go_simp
          refine hK _ _ ?_
          clear hK K;refine wpAny_done (by kernel_rfl) ?_ _;refine NoPanic.normal ?_
          have t3:=t2.setC (.slice (some ⟨g2,0,none⟩) (k+1) cap2);have hown3:=ownsRow_setCell_below hown2 (a:=⟨w.heap.size+1,2,none⟩) (Nat.lt_succ_self _) (.slice (some ⟨g2,0,none⟩) (k+1) cap2);have e3:=ownsRow_setCell_below e2 (a:=⟨w.heap.size+1,2,none⟩) (Nat.lt_succ_self _) (.slice (some ⟨g2,0,none⟩) (k+1) cap2);have r3:=ownsRow_setCell_below r2 (a:=⟨w.heap.size+1,2,none⟩) (Nat.lt_succ_self _) (.slice (some ⟨g2,0,none⟩) (k+1) cap2);rw [←HST.out] at hown3;clear hown2 hgrow2 hat2 hlt2 t2 c2 f2 c0 e2 r2 x0 x1 x2 cAl cAm;go_wp2
          go_roundw
          case rel=>exact⟨k+1,_,by omega,by go_num,by have:=HA.out;go_num,t3,e3,r3,hown3⟩
          case measure=>simp [intOf];omega
       ·have hke:k=nC s:=by omega
        subst hke;have HO:=hide (And.intro hE (And.intro hR hown));obtain⟨ae,ce,rfl,-,-,-⟩:=own_read hE;obtain⟨ar,cr,rfl,-,-,-⟩:=own_read hR;obtain⟨ac,cc,rfl,-,-,-⟩:=own_read hown;have m0:=bc_ 0 ht.own rfl;have m1:=bc_ 1 ht.own rfl;have m2:=bc_ 2 ht.own rfl;have HT:=hide ht;clear ht hE hR hown
        go_wp2_with fail
        refine (refRight_any _ _ _ (prgOf s) _ (own_ints HO.out.1 (entsOf_len _ _ _).symm) (own_rules HO.out.2.1 (rulesOf_len _ _ _).symm) (own_code HO.out.2.2 (codeOf_len _ _ _).symm)).mono ?_
        rintro e w5 ⟨bb,rfl,hbb,hB5⟩;have k5:=blk_below HT.out.out hB5 (blk_lt HT.out.out);have p5:=blk_below HT.out.own hB5 (blk_lt HT.out.own);have bel5:=bel0 HT.out.bel hB5;have HO5:=hide (And.intro (own_below HO.out.1 hB5 lr_) (And.intro (own_below HO.out.2.1 hB5 lr_) (own_below HO.out.2.2 hB5 lr_)));have o0:=bc_ 0 k5 rfl;have o1:=bc_ 1 k5 rfl;have o2:=bc_ 2 k5 rfl;have f0:=blk_frozen k5 0;have f1:=blk_frozen k5 1;have f2:=blk_frozen k5 2;have n0:=bc_ 0 p5 rfl;have n1:=bc_ 1 p5 rfl;have n2:=bc_ 2 p5 rfl;clear m0 m1 m2 k5 p5 HT HO hB5;cases bb
        ·have HN:Hid (¬(Form s∧Pure.RightP (prgOf s))):=fun h=>Bool.noConfusion (hbb.2 h.2)
         clear hbb;go_wp2;refine bodyPost_ret (v:=.tuple #[.agg #[.slice none 0 0,.slice none 0 0,.slice none 0 0],.int .i64 2]) (by simp [results,Tryz.results31,go_sem,o0,o1,o2]) rfl (.inr ⟨HN.out,rfl,?_⟩);exact ((bel5.setCell lr_ _).setCell lr_ _).setCell lr_ _
        ·have HN:=hide (hbb.1 rfl)
         clear hbb;go_wp2;refine bodyPost_ret (v:=.tuple #[.agg #[.slice ae (nE s) ce,.slice ar (nR s) cr,.slice ac (nC s) cc],.int .i64 0]) (by simp [results,Tryz.results31,go_sem,o0,o1,o2]) rfl (.inl ⟨HF.out.2 HSZ.out,HN.out,_,_,_,rfl,?_,?_,?_,?_⟩)
         ·exact ((bel5.setCell lr_ _).setCell lr_ _).setCell lr_ _
         ·exact own_mono (ownsRow_setCell_below (ownsRow_setCell_below (ownsRow_setCell_below HO5.out.1 (by show w.heap.size<w.heap.size+2;omega) _) (by show w.heap.size<w.heap.size+2;omega) _) (by show w.heap.size<w.heap.size+2;omega) _) (by omega)
         ·exact own_mono (ownsRow_setCell_below (ownsRow_setCell_below (ownsRow_setCell_below HO5.out.2.1 (by show w.heap.size<w.heap.size+2;omega) _) (by show w.heap.size<w.heap.size+2;omega) _) (by show w.heap.size<w.heap.size+2;omega) _) (by omega)
         ·exact own_mono (ownsRow_setCell_below (ownsRow_setCell_below (ownsRow_setCell_below HO5.out.2.2 (by show w.heap.size<w.heap.size+2;omega) _) (by show w.heap.size<w.heap.size+2;omega) _) (by show w.heap.size<w.heap.size+2;omega) _) (by omega)
 ·have hb:((s.size:Int) != 6+2*(nE s:Int)+3*(nR s:Int)+5*(nC s:Int))=true:=by simp;omega
  have HSZ:=hide hsz;clear hsz;have o0:=bc_ 0 kX rfl;have o1:=bc_ 1 kX rfl;have o2:=bc_ 2 kX rfl;have f0:=blk_frozen kX 0;have f1:=blk_frozen kX 1;have f2:=blk_frozen kX 2;clear kX sX;go_wp2;refine bodyPost_ret (v:=.tuple #[.agg #[.slice none 0 0,.slice none 0 0,.slice none 0 0],.int .i64 2]) (by simp [results,Tryz.results31,go_sem,o0,o1,o2]) rfl (.inr ⟨fun h=>HSZ.out (HF.out.1 h.1),rfl,?_⟩);exact ((bX.setCell lr_ _).setCell lr_ _).setCell lr_ _
theorem refUnpack_any (s:ByteArray) (w:World) (hs:s.size≤9223372036854775807):Calls Tryz.prog 31 #[.string s] w (RetUnp 2 s w):=by
 by_cases h:6≤s.size∧bt s 0=87∧bt s 1=82
 ·exact refUnpack_long s w hs h.1 h.2.1 h.2.2
 ·exact refUnpack_short s w hs h
end Go.Proofs.YtmccnmgaoppogaaGreat
