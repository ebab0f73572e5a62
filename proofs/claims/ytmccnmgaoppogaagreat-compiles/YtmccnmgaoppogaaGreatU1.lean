/-
 The walks: the document's Unpack. (weirref)
-/
import Derived.Test.YtmccnmgaoppogaaGreatRA
import Derived.Test.YtmccnmgaoppogaaGreatWB
namespace Go.Proofs.YtmccnmgaoppogaaGreat
set_option maxRecDepth 100000
set_option maxHeartbeats 8000000
open Go.RowKit
theorem refPair_any (s:ByteArray) (i:Int) (w:World) (h0:0≤i) (h1:i+1<s.size) (hs:s.size≤9223372036854775807) :
  Calls Tryz.prog 66 #[.string s,.int .i64 i] w fun e w'=>e=.returned (.int .i64 (pr s i.toNat))∧∃n,w'=w.drewN n:=by
 obtain⟨a,rfl⟩:=Int.eq_ofNat_of_zero_le h0
 rw [Int.toNat_natCast]
 have x0:=fun w=>idx_str s (a:Int) a rfl (by omega) w
 have x1:=fun w=>idx_str s ((a:Int)+1) (a+1) (by omega) (by omega) w
 have b0:=bt_bd s a
 have b1:=bt_bd s (a+1)
 have HP:Hid (pr s a=bt s a+256*bt s (a+1)):=by show pr s a=_;unfold pr;omega
 rw [HP.out]
 generalize bt s a=p0 at *
 generalize bt s (a+1)=p1 at *
 have j1:(a:Int)<(s.size:Int):=by omega
 have wr1:=wr_ (a:Int) (by omega) (by omega)
 have wr2:IntKind.i64.wrap (256*p1)=256*p1:=wrap_in _ (by omega) (by omega)
 have wr3:IntKind.i64.wrap (p0+256*p1)=p0+256*p1:=wrap_in _ (by omega) (by omega)
 go_enter Tryz.func66,Tryz.ntmps66
 go_wp2_with fail
 go_quiet (fail)
 go_wp2
 go_ret
 exact⟨rfl,_,rfl⟩
theorem wr_iff (s:ByteArray) (h:6≤s.size):((s.extract 0 2).toList == [87,82])=decide (bt s 0=87∧bt s 1=82):=by
 have e:(s.extract 0 2).toList=s.data.toList.take 2:=by rw [ByteArray.toList_eq];simp
 rw [e]
 have hl:6≤s.data.toList.length:=by simpa using h
 unfold bt
 match hd:s.data.toList,hl with
 | a::b::r,_=>
  rw [Bool.eq_iff_iff];simp [←UInt8.toNat_inj];omega
theorem refUnpack_short (s:ByteArray) (w:World) (hs:s.size≤9223372036854775807) (hF:¬(6≤s.size∧bt s 0=87∧bt s 1=82)) :
  Calls Tryz.prog 31 #[.string s] w (RetUnp 2 s w):=by
 have HN:Hid (¬(Form s∧Pure.RightP (prgOf s))):=fun h=>hF ⟨h.1.1,h.1.2.1,h.1.2.2.1⟩
 have FIN:=hide ((Below.refl w.heap.size w).alloc lr_ (.cells #[.slice none 0 0,.slice none 0 0,.slice none 0 0] 43))
 by_cases h6:s.size<6
 ·have hd:decide ((s.size:Int)<6)=true:=by simp;omega
  clear hF;go_enter Tryz.func31,Tryz.ntmps31;go_wp2;exact bodyPost_ret (v:=.tuple #[.agg #[.slice none 0 0,.slice none 0 0,.slice none 0 0],.int .i64 2]) (by simp [results,Tryz.results31,go_sem]) rfl (.inr ⟨HN.out,rfl,FIN.out⟩)
 have hd:decide ((s.size:Int)<6)=false:=by simp;omega
 have hw:((s.extract 0 2).toList == [87,82])=false:=by rw [wr_iff s (by omega)];exact decide_eq_false (fun h=>hF ⟨by omega,h.1,h.2⟩)
 clear hF
 go_enter Tryz.func31,Tryz.ntmps31
 go_wp2
 exact bodyPost_ret (v:=.tuple #[.agg #[.slice none 0 0,.slice none 0 0,.slice none 0 0],.int .i64 2]) (by simp [results,Tryz.results31,go_sem]) rfl (.inr ⟨HN.out,rfl,FIN.out⟩)
structure Two (w W:World) (ve vr vc:Value):Prop where
 out:Blk W w.heap.size 43 [.slice none 0 0,.slice none 0 0,.slice none 0 0]
 own:Blk W (w.heap.size+1) 43 [ve,vr,vc]
 bel:Below w.heap.size w W
 sz:w.heap.size+2≤W.heap.size
theorem Two.drewN {w W:World} {ve vr vc:Value} (h:Two w W ve vr vc) (n:Nat):Two w (W.drewN n) ve vr vc:=⟨h.out,h.own,below_drewN h.bel n,by have:=h.sz;simpa using this⟩
theorem Two.alloc {w W:World} {ve vr vc:Value} (h:Two w W ve vr vc) (o:Obj):Two w (W.alloc o) ve vr vc:=⟨blk_alloc h.out o,blk_alloc h.own o,h.bel.alloc (by have:=h.sz;omega) o,by have:=h.sz;simp;omega⟩
theorem Two.step {w W W':World} {ve vr vc:Value} {row:Option Nat} (h:Two w W ve vr vc) (hg:W.grownBy W' row) (hr:∀k,row=some k→w.heap.size+2≤k):Two w W' ve vr vc:=by
 have h1:=hg.size
 have h2:=h.sz
 refine⟨blk_grown h.out hg (fun e=>by have:=hr _ e.symm;omega),blk_grown h.own hg (fun e=>by have:=hr _ e.symm;omega),h.bel.grown hg (by omega) (fun k hk=>by have:=hr k hk;omega),by omega⟩
theorem Two.setE {w W:World} {ve vr vc:Value} (h:Two w W ve vr vc) (u:Value):Two w (W.setCell ⟨w.heap.size+1,0,none⟩ u) u vr vc:=
 ⟨blk_other h.out (by omega) _ _,by have:=blk_set h.own 0 u;simpa using this,h.bel.setCell (by show w.heap.size≤w.heap.size+1;omega) _,by have:=h.sz;rw [show (W.setCell ⟨w.heap.size+1,0,none⟩ u).heap.size=W.heap.size from by simp [World.setCell]];exact this⟩
theorem Two.setR {w W:World} {ve vr vc:Value} (h:Two w W ve vr vc) (u:Value):Two w (W.setCell ⟨w.heap.size+1,1,none⟩ u) ve u vc:=
 ⟨blk_other h.out (by omega) _ _,by have:=blk_set h.own 1 u;simpa using this,h.bel.setCell (by show w.heap.size≤w.heap.size+1;omega) _,by have:=h.sz;rw [show (W.setCell ⟨w.heap.size+1,1,none⟩ u).heap.size=W.heap.size from by simp [World.setCell]];exact this⟩
theorem Two.setC {w W:World} {ve vr vc:Value} (h:Two w W ve vr vc) (u:Value):Two w (W.setCell ⟨w.heap.size+1,2,none⟩ u) ve vr u:=
 ⟨blk_other h.out (by omega) _ _,by have:=blk_set h.own 2 u;simpa using this,h.bel.setCell (by show w.heap.size≤w.heap.size+1;omega) _,by have:=h.sz;rw [show (W.setCell ⟨w.heap.size+1,2,none⟩ u).heap.size=W.heap.size from by simp [World.setCell]];exact this⟩
end Go.Proofs.YtmccnmgaoppogaaGreat
