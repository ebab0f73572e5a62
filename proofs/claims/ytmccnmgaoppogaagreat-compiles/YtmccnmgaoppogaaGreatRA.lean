/-
 The walks: rules and instructions that are read. (images)
 The walks: rules and instructions that are read. (images)
 The walks: the program that an image tells. (images)
 The walks: Unpack. (weir)
 Rows and blocks that stay as they were.
-/
import Derived.Test.YtmccnmgaoppogaaGreatMeA
import Derived.Test.YtmccnmgaoppogaaGreatWA
namespace Go.Proofs.YtmccnmgaoppogaaGreat
set_option maxRecDepth 100000
set_option maxHeartbeats 8000000
open Go.RowKit
theorem readRules_any (s:ByteArray) (w:World) (hs:s.size≤1000000) :
  Calls Tryz.prog 112 #[.string s] w (RetRow 59 3 (s.size / 3) (ruleCells (rulesOf s 0 (s.size / 3))) w):=by
 obtain⟨i0,hi,hz0,hz1,hz2⟩:=info_parts Tryz.info59
 go_enter Tryz.func112,Tryz.ntmps112
 go_wp2_with (at_make;refine wpList_make_own _ rfl _ _ 40 rfl w.heap.size 59 i0 (.agg #[.int .i64 0,.int .i64 0,.int .i64 0]) 3 Tryz.underlying40 hi hz0 hz1 _ _ _ (s.size / 3) rfl rfl (by omega) (by rw [hz2];omega) (by unfold maxLen;omega) lr_ ?_;intro w1 hown1 hgrow1)
 have hbel1:Below w.heap.size w w1:=(Below.refl _ _).grown hgrow1 lr_ (fun k h=>by cases h)
 have HO:=hide hown1
 clear hown1 hgrow1
 go_loopw [3,4] (fun f i wr=>∃(k:Nat) (f':Value),k≤s.size / 3∧i=.int .i64 ((3*k:Nat):Int)∧f'=f∧Below w.heap.size w wr∧wr.ownsRow w.heap.size 59 3 f' k (ruleCells (rulesOf s 0 k))) (fun _ i _=>s.size+3-(intOf i).toNat)
 case atStart=>exact⟨0,_,Nat.zero_le _,rfl,rfl,hbel1,HO.out⟩
 case round=>
  clear HO hbel1;obtain⟨k,f,hk,rfl,rfl,hbel,hown⟩:=hrel;by_cases hlt:3*k+3≤s.size
  ·have hk1:k+1≤s.size / 3:=by omega
   have hst:=rules_step s 0 k;have HST:=hide hst;clear hst;rw [Nat.zero_add] at HST;generalize ha:3*k=a at *;have HA:=hide ha;clear ha;have x0:=fun w=>idx_str s (a:Int) a rfl (by omega) w
   have b0:=bt_bd s a;have x1:=fun w=>idx_str s ((a:Int)+1) (a+1) (by omega) (by omega) w
   have b1:=bt_bd s (a+1);have x2:=fun w=>idx_str s ((a:Int)+2) (a+2) (by omega) (by omega) w
   have b2:=bt_bd s (a+2);generalize bt s a=p0 at *;generalize bt s (a+1)=p1 at *;generalize bt s (a+2)=p2 at *;have j0:=nz_ a;have k0:(a:Int)<(s.size:Int):=by omega
   have j1:(0:Int)≤(a:Int)+1:=by omega
   have k1:(a:Int)+1<(s.size:Int):=by omega
   have wr1:=wr_ (a:Int) (by omega) (by omega);have j2:(0:Int)≤(a:Int)+2:=by omega
   have k2:(a:Int)+2<(s.size:Int):=by omega
   have wr2:IntKind.i64.wrap ((a:Int)+2)=(a:Int)+2:=wrap_in _ (by omega) (by omega);have HO:=hide hown;clear hown;have hszr:=hbel.size
   go_wp2_with fail
   go_region
   go_wp2_with (at_builtin;refine wpList_append_own _ rfl (.tmp 32) (.tmp 34) 40 rfl w.heap.size 59 i0 (.agg #[.int .i64 0,.int .i64 0,.int .i64 0]) 3 24 Tryz.underlying40 hi hz0 hz1 hz2 rfl (by decide) f k (ruleCells (rulesOf s 0 k)) rfl (World.ownsRow.alloc (World.ownsRow.drew (World.ownsRow.alloc HO.out (.cells #[.int .i64 p0,.int .i64 p1,.int .i64 p2] 59))) _) ⟨wr.heap.size+1,0,none⟩ 1 1 [.int .i64 p0,.int .i64 p1,.int .i64 p2] rfl rfl (cell_list3 (by simp)) (by intro u hu;simp at hu;rcases hu with rfl | rfl | rfl <;> rfl) (by unfold maxLen;omega) (by omega) (by simp;omega) ?_;intro v2 w2 hown2 hgrow2 _)
   have hbel2:Below w.heap.size w w2:=(((hbel.alloc hszr _).drew).alloc (by show w.heap.size≤(wr.alloc _).heap.size;simp;omega) _).grown hgrow2 (by simp;omega) (fun k' h=>(World.ownsRow.lt HO.out k' h).1);rw [←HST.out] at hown2;clear hgrow2 x0 x1 x2
   go_roundw
   case rel=>exact⟨k+1,_,hk1,by have:=HA.out;go_num,rfl,hbel2,hown2⟩
   case measure=>simp [intOf];omega
  ·have hke:k=s.size / 3:=by omega
   subst hke;go_wp2;go_ret;exact⟨_,rfl,hbel,hown⟩
theorem readCode_any (s:ByteArray) (w:World) (hs:s.size≤1000000) :
  Calls Tryz.prog 113 #[.string s] w (RetRow 61 4 (s.size / 5) (insCells (codeOf s 0 (s.size / 5))) w):=by
 obtain⟨i0,hi,hz0,hz1,hz2⟩:=info_parts Tryz.info61
 go_enter Tryz.func113,Tryz.ntmps113
 go_wp2_with (at_make;refine wpList_make_own _ rfl _ _ 41 rfl w.heap.size 61 i0 (.agg #[.int .i64 0,.int .i64 0,.int .i64 0,.int .i64 0]) 4 Tryz.underlying41 hi hz0 hz1 _ _ _ (s.size / 5) rfl rfl (by omega) (by rw [hz2];omega) (by unfold maxLen;omega) lr_ ?_;intro w1 hown1 hgrow1)
 have hbel1:Below w.heap.size w w1:=(Below.refl _ _).grown hgrow1 lr_ (fun k h=>by cases h)
 have HO:=hide hown1
 clear hown1 hgrow1
 go_loopw [3,4] (fun f i wr=>∃(k:Nat) (f':Value),k≤s.size / 5∧i=.int .i64 ((5*k:Nat):Int)∧f'=f∧Below w.heap.size w wr∧wr.ownsRow w.heap.size 61 4 f' k (insCells (codeOf s 0 k))) (fun _ i _=>s.size+5-(intOf i).toNat)
 case atStart=>exact⟨0,_,Nat.zero_le _,rfl,rfl,hbel1,HO.out⟩
 case round=>
  clear HO hbel1;obtain⟨k,f,hk,rfl,rfl,hbel,hown⟩:=hrel;by_cases hlt:5*k+5≤s.size
  ·have hk1:k+1≤s.size / 5:=by omega
   have hst:=code_step s 0 k;have HST:=hide hst;clear hst;rw [Nat.zero_add] at HST;generalize ha:5*k=a at *;have HA:=hide ha;clear ha;have x0:=fun w=>idx_str s (a:Int) a rfl (by omega) w
   have b0:=bt_bd s a;have x1:=fun w=>idx_str s ((a:Int)+1) (a+1) (by omega) (by omega) w
   have b1:=bt_bd s (a+1);have x2:=fun w=>idx_str s ((a:Int)+2) (a+2) (by omega) (by omega) w
   have b2:=bt_bd s (a+2);have x3:=fun w=>idx_str s ((a:Int)+3) (a+3) (by omega) (by omega) w
   have b3:=bt_bd s (a+3);have x4:=fun w=>idx_str s ((a:Int)+4) (a+4) (by omega) (by omega) w
   have b4:=bt_bd s (a+4);generalize bt s a=p0 at *;generalize bt s (a+1)=p1 at *;generalize bt s (a+2)=p2 at *;generalize bt s (a+3)=p3 at *;generalize bt s (a+4)=p4 at *;have j0:=nz_ a;have k0:(a:Int)<(s.size:Int):=by omega
   have j1:(0:Int)≤(a:Int)+1:=by omega
   have k1:(a:Int)+1<(s.size:Int):=by omega
   have wr1:=wr_ (a:Int) (by omega) (by omega);have j2:(0:Int)≤(a:Int)+2:=by omega
   have k2:(a:Int)+2<(s.size:Int):=by omega
   have wr2:IntKind.i64.wrap ((a:Int)+2)=(a:Int)+2:=wrap_in _ (by omega) (by omega);have j3:(0:Int)≤(a:Int)+3:=by omega
   have k3:(a:Int)+3<(s.size:Int):=by omega
   have wr3:IntKind.i64.wrap ((a:Int)+3)=(a:Int)+3:=wrap_in _ (by omega) (by omega);have j4:(0:Int)≤(a:Int)+4:=by omega
   have k4:(a:Int)+4<(s.size:Int):=by omega
   have wr4:IntKind.i64.wrap ((a:Int)+4)=(a:Int)+4:=wrap_in _ (by omega) (by omega);have HO:=hide hown;clear hown;have hszr:=hbel.size
   go_wp2_with fail
   go_region_held3 (fun _=>True) (trivial) (first | (go_at_call 110;refine (pair_any _ _ _ b3.1 b3.2 b4.1 b4.2).mono ?_;rintro e w' ⟨rfl,rfl⟩))
   all_goals go_wp2_with fail
   all_goals go_region
   all_goals
    go_wp2_with (at_builtin;go_must (refine wpList_append_own _ rfl (.tmp 43) (.tmp 45) 41 rfl w.heap.size 61 i0 (.agg #[.int .i64 0,.int .i64 0,.int .i64 0,.int .i64 0]) 4 32 Tryz.underlying41 hi hz0 hz1 hz2 rfl (by decide) f k (insCells (codeOf s 0 k)) rfl (World.ownsRow.alloc (World.ownsRow.drew (World.ownsRow.drew (World.ownsRow.alloc HO.out (.cells #[.int .i64 p0,.int .i64 p1,.int .i64 p2,.int .i64 (p3+p4*256)] 61)))) _) ⟨wr.heap.size+1,0,none⟩ 1 1 [.int .i64 p0,.int .i64 p1,.int .i64 p2,.int .i64 (p3+p4*256)] rfl rfl (cell_list3 (by simp)) (by intro u hu;simp at hu;rcases hu with rfl | rfl | rfl | rfl <;> rfl) (by unfold maxLen;omega) (by omega) (by simp;omega) ?_;intro v2 w2 hown2 hgrow2 _))
    have hbel2:Below w.heap.size w w2:=((((hbel.alloc hszr _).drew).drew).alloc (by show w.heap.size≤(wr.alloc _).heap.size;simp;omega) _).grown hgrow2 (by simp;omega) (fun k' h=>(World.ownsRow.lt HO.out k' h).1);rw [←HST.out] at hown2;clear hgrow2 x0 x1 x2 x3 x4
    go_roundw
    case rel=>exact⟨k+1,_,hk1,by have:=HA.out;go_num,rfl,hbel2,hown2⟩
    case measure=>simp [intOf];omega
  ·have hke:k=s.size / 5:=by omega
   subst hke;go_wp2;go_ret;exact⟨_,rfl,hbel,hown⟩
def nE (s:ByteArray):Nat:=(bt s 2).toNat
def nR (s:ByteArray):Nat:=(bt s 3).toNat
def nC (s:ByteArray):Nat:=(pr s 4).toNat
def Form (s:ByteArray):Prop:=6≤s.size∧bt s 0=87∧bt s 1=82∧s.size=6+2*nE s+3*nR s+5*nC s
def prgOf (s:ByteArray):Pure.Prg:=⟨entsOf s 6 (nE s),rulesOf s (6+2*nE s) (nR s),codeOf s (6+2*nE s+3*nR s) (nC s)⟩
theorem bt_extract (s:ByteArray) (a b i:Nat) (_hb:b≤s.size) (hi:a+i<b):bt (s.extract a b) i=bt s (a+i):=by
 unfold bt
 have e:(s.extract a b).data=s.data.extract a b:=by simp
 rw [e]
 have e2:(s.data.extract a b).toList=(s.data.toList.drop a).take (b-a):=by simp
 rw [e2]
 simp only [List.getD_eq_getElem?_getD,List.getElem?_take,List.getElem?_drop]
 rw [if_pos (by omega)]
theorem ents_extract (s:ByteArray) (a b k:Nat) (hb:b≤s.size) (hk:a+2*k≤b):entsOf (s.extract a b) 0 k=entsOf s a k:=by
 unfold entsOf
 apply List.map_congr_left
 intro i hi
 have hi':=List.mem_range.1 hi
 unfold pr
 rw [bt_extract s a b _ hb (by omega),bt_extract s a b _ hb (by omega),Nat.zero_add,Nat.add_assoc]
theorem rules_extract (s:ByteArray) (a b k:Nat) (hb:b≤s.size) (hk:a+3*k≤b):rulesOf (s.extract a b) 0 k=rulesOf s a k:=by
 unfold rulesOf
 apply List.map_congr_left
 intro i hi
 have hi':=List.mem_range.1 hi
 rw [bt_extract s a b _ hb (by omega),bt_extract s a b _ hb (by omega),bt_extract s a b _ hb (by omega),Nat.zero_add,←Nat.add_assoc,←Nat.add_assoc]
theorem code_extract (s:ByteArray) (a b k:Nat) (hb:b≤s.size) (hk:a+5*k≤b):codeOf (s.extract a b) 0 k=codeOf s a k:=by
 unfold codeOf
 apply List.map_congr_left
 intro i hi
 have hi':=List.mem_range.1 hi
 unfold pr
 rw [bt_extract s a b _ hb (by omega),bt_extract s a b _ hb (by omega),bt_extract s a b _ hb (by omega),bt_extract s a b _ hb (by omega),bt_extract s a b _ hb (by omega),Nat.zero_add]
 simp only [Nat.add_assoc]
def RetRead (s:ByteArray) (w:World) (e:Ending) (w':World):Prop:=
 (Form s∧∃ve vr vc,e=.returned (.tuple #[.agg #[ve,vr,vc],.bool true])∧Below w.heap.size w w'∧w'.ownsRow w.heap.size 3 1 ve (nE s) (intCells (prgOf s).ents)∧w'.ownsRow w.heap.size 59 3 vr (nR s) (ruleCells (prgOf s).rules)∧w'.ownsRow w.heap.size 61 4 vc (nC s) (insCells (prgOf s).code))∨
 (¬Form s∧e=.returned (.tuple #[.agg #[.slice none 0 0,.slice none 0 0,.slice none 0 0],.bool false])∧Below w.heap.size w w')
theorem read_short (s:ByteArray) (w:World) (hs:s.size≤9223372036854775807) (hF:¬(6≤s.size∧bt s 0=87∧bt s 1=82)) :
  Calls Tryz.prog 76 #[.string s] w (RetRead s w):=by
 have HN:Hid (¬Form s):=fun h=>hF ⟨h.1,h.2.1,h.2.2.1⟩
 have FIN:=hide ((Below.refl w.heap.size w).alloc lr_ (.cells #[.slice none 0 0,.slice none 0 0,.slice none 0 0] 43))
 by_cases h6:s.size<6
 ·have hd:decide ((s.size:Int)<6)=true:=by simp;omega
  clear hF;go_enter Tryz.func76,Tryz.ntmps76;go_wp2;exact bodyPost_ret (v:=.tuple #[.agg #[.slice none 0 0,.slice none 0 0,.slice none 0 0],.bool false]) (by simp [results,Tryz.results76,go_sem]) rfl (.inr ⟨HN.out,rfl,FIN.out⟩)
 have hd:decide ((s.size:Int)<6)=false:=by simp;omega
 have x0:=fun w=>idx_str s 0 0 rfl (by omega) w
 have x1:=fun w=>idx_str s 1 1 rfl (by omega) w
 have b0:=bt_bd s 0
 have b1:=bt_bd s 1
 generalize bt s 0=p0 at *
 generalize bt s 1=p1 at *
 have k0:(0:Int)<(s.size:Int):=by omega
 have k1:(1:Int)<(s.size:Int):=by omega
 by_cases h87:p0=87
 ·have e0:(p0 != 87)=false:=by simpa using h87
  have e1:(p1 != 82)=true:=by simp;omega
  clear hF h87;go_enter Tryz.func76,Tryz.ntmps76;go_wp2;exact bodyPost_ret (v:=.tuple #[.agg #[.slice none 0 0,.slice none 0 0,.slice none 0 0],.bool false]) (by simp [results,Tryz.results76,go_sem]) rfl (.inr ⟨HN.out,rfl,FIN.out⟩)
 ·have e0:(p0 != 87)=true:=by simpa using h87
  clear hF h87;go_enter Tryz.func76,Tryz.ntmps76;go_wp2;exact bodyPost_ret (v:=.tuple #[.agg #[.slice none 0 0,.slice none 0 0,.slice none 0 0],.bool false]) (by simp [results,Tryz.results76,go_sem]) rfl (.inr ⟨HN.out,rfl,FIN.out⟩)
theorem read_long (s:ByteArray) (w:World) (hs:s.size≤9223372036854775807) (h6:6≤s.size) (h87:bt s 0=87) (h82:bt s 1=82) :
  Calls Tryz.prog 76 #[.string s] w (RetRead s w):=by
 have hd:decide ((s.size:Int)<6)=false:=by simp;omega
 have x0:=fun w=>idx_str s 0 0 rfl (by omega) w
 have x1:=fun w=>idx_str s 1 1 rfl (by omega) w
 have x2:=fun w=>idx_str s 2 2 rfl (by omega) w
 have x3:=fun w=>idx_str s 3 3 rfl (by omega) w
 have x4:=fun w=>idx_str s 4 4 rfl (by omega) w
 have x5:=fun w=>idx_str s 5 5 rfl (by omega) w
 have b2:=bt_bd s 2
 have b3:=bt_bd s 3
 have b4:=bt_bd s 4
 have b5:=bt_bd s 5
 rw [h87] at x0
 rw [h82] at x1
 have HF:Hid (Form s↔s.size=6+2*nE s+3*nR s+5*nC s):=⟨fun h=>h.2.2.2,fun h=>⟨h6,h87,h82,h⟩⟩
 have e2:bt s 2=((nE s:Nat):Int):=by unfold nE;omega
 have e3:bt s 3=((nR s:Nat):Int):=by unfold nR;omega
 have e4:bt s 4+bt s 5*256=((nC s:Nat):Int):=by
  have:nC s=(bt s 4+bt s 5*256).toNat:=rfl;omega
 rw [e2] at x2 b2
 rw [e3] at x3 b3
 have E4:=hide e4
 have hn:nC s≤65535:=by have:=bt_bd s 5;omega
 clear e2 e3 e4 h87 h82
 have k0:(0:Int)<(s.size:Int):=by omega
 have k1:(1:Int)<(s.size:Int):=by omega
 have k2:(2:Int)<(s.size:Int):=by omega
 have k3:(3:Int)<(s.size:Int):=by omega
 have k4:(4:Int)<(s.size:Int):=by omega
 have k5:(5:Int)<(s.size:Int):=by omega
 generalize bt s 4=p4 at *
 generalize bt s 5=p5 at *
 have HB0:=hide ((Below.refl w.heap.size w).alloc lr_ (.cells #[.slice none 0 0,.slice none 0 0,.slice none 0 0] 43))
 have hblk:Blk (w.alloc (.cells #[.slice none 0 0,.slice none 0 0,.slice none 0 0] 43)) w.heap.size 43 [.slice none 0 0,.slice none 0 0,.slice none 0 0]:=heap_alloc_new _ _
 have HBK:=hide hblk
 clear hblk
 go_enter Tryz.func76,Tryz.ntmps76
 go_wp2_with fail
 go_quiet ((go_at_call 110;exact Calls.quiet_of_same (pair_any' _ _ _ b4 b5)))
 rw [E4.out]
 have bX:Below w.heap.size w ((w.alloc (.cells #[.slice none 0 0,.slice none 0 0,.slice none 0 0] 43)).drewN nq):=below_drewN HB0.out nq
 have kX:Blk ((w.alloc (.cells #[.slice none 0 0,.slice none 0 0,.slice none 0 0] 43)).drewN nq) w.heap.size 43 [.slice none 0 0,.slice none 0 0,.slice none 0 0]:=HBK.out
 have sX:((w.alloc (.cells #[.slice none 0 0,.slice none 0 0,.slice none 0 0] 43)).drewN nq).heap.size=w.heap.size+1:=by simp
 generalize (w.alloc (.cells #[.slice none 0 0,.slice none 0 0,.slice none 0 0] 43)).drewN nq=X at *
 clear x0 x1 x2 x3 x4 x5 HB0 HBK
 have SX:=hide sX
 clear sX
 by_cases hsz:s.size=6+2*nE s+3*nR s+5*nC s
 ·have hb:((s.size:Int) != 6+(nE s:Int)*2+(nR s:Int)*3+(nC s:Int)*5)=false:=by simp;omega
  have hl1:s.size≤6+2*nE s+3*nR s+5*nC s:=by omega
  have hl2:6+2*nE s+3*nR s+5*nC s≤s.size:=by omega
  have HSZ:=hide hsz;clear hsz
  go_wp2_with fail
  refine (readEntries_any _ _ (by simp;omega)).mono ?_
  rintro e w1 ⟨ve,rfl,hB1,ho1⟩;have z1:(s.extract 6 (6+nE s*2)).size / 2=nE s:=by simp;omega
  rw [z1,ents_extract s 6 _ _ (by omega) (by omega),SX.out] at ho1;clear z1;have HO1:=hide ho1;obtain⟨ae,ce,rfl,-,-,-⟩:=own_read ho1;have bel1:=bel0 bX hB1;have k1':=blk_below kX hB1 (blk_lt kX);have hs1:=hB1.size;rw [SX.out] at hs1;clear ho1 hB1 kX
  go_wp2_with fail
  refine (readRules_any _ _ (by simp;omega)).mono ?_
  rintro e w2 ⟨vr,rfl,hB2,ho2⟩;have z2:(s.extract (6+nE s*2) (6+nE s*2+nR s*3)).size / 3=nR s:=by simp;omega
  rw [z2,rules_extract s _ _ _ (by omega) (by omega)] at ho2;clear z2;have HO2:=hide (own_mono (base':=w.heap.size+1) ho2 hs1);have HO1':=hide (own_below HO1.out hB2 lr_);obtain⟨ar,cr,rfl,-,-,-⟩:=own_read ho2;have bel2:=bel0 bel1 hB2;have k2':=blk_below k1' hB2 (blk_lt k1');have hs2:w.heap.size+1≤w2.heap.size:=by have:=hB2.size;omega
  clear ho2 hB2 k1' HO1
  go_wp2_with fail
  refine (readCode_any _ _ (by simp;omega)).mono ?_
  rintro e w3 ⟨vc,rfl,hB3,ho3⟩;have z3:(s.extract (6+nE s*2+nR s*3) s.size).size / 5=nC s:=by simp;omega
  rw [z3,code_extract s _ _ _ (by omega) (by omega)] at ho3;clear z3;have HO3:=hide (own_mono (base':=w.heap.size+1) ho3 hs2);have HO1'':=hide (own_below HO1'.out hB3 lr_);have HO2':=hide (own_below HO2.out hB3 lr_);obtain⟨ac,cc,rfl,-,-,-⟩:=own_read ho3;have bel3:=bel0 bel2 hB3;have k3':=blk_below k2' hB3 (blk_lt k2');have o0:=bc_ 0 k3' rfl;have o1:=bc_ 1 k3' rfl;have o2:=bc_ 2 k3' rfl;have f0:=blk_frozen k3' 0;have f1:=blk_frozen k3' 1;have f2:=blk_frozen k3' 2;clear ho3 hB3 k2' k3' HO1' HO2;go_wp2;refine bodyPost_ret (v:=.tuple #[.agg #[.slice ae (nE s) ce,.slice ar (nR s) cr,.slice ac (nC s) cc],.bool true]) (by simp [results,Tryz.results76,go_sem,o0,o1,o2]) rfl (.inl ⟨HF.out.2 HSZ.out,_,_,_,rfl,?_,?_,?_,?_⟩)
  ·exact ((bel3.setCell lr_ _).setCell lr_ _).setCell lr_ _
  ·exact own_mono (ownsRow_setCell_below (ownsRow_setCell_below (ownsRow_setCell_below HO1''.out (Nat.lt_succ_self _) _) (Nat.lt_succ_self _) _) (Nat.lt_succ_self _) _) (Nat.le_succ _)
  ·have e:(prgOf s).rules=rulesOf s (6+nE s*2) (nR s):=by unfold prgOf;rw [Nat.mul_comm]
   rw [e];exact own_mono (ownsRow_setCell_below (ownsRow_setCell_below (ownsRow_setCell_below HO2'.out (Nat.lt_succ_self _) _) (Nat.lt_succ_self _) _) (Nat.lt_succ_self _) _) (Nat.le_succ _)
  ·have e:(prgOf s).code=codeOf s (6+nE s*2+nR s*3) (nC s):=by unfold prgOf;rw [Nat.mul_comm 2,Nat.mul_comm 3]
   rw [e];exact own_mono (ownsRow_setCell_below (ownsRow_setCell_below (ownsRow_setCell_below HO3.out (Nat.lt_succ_self _) _) (Nat.lt_succ_self _) _) (Nat.lt_succ_self _) _) (Nat.le_succ _)
 ·have hb:((s.size:Int) != 6+(nE s:Int)*2+(nR s:Int)*3+(nC s:Int)*5)=true:=by simp;omega
  have HSZ:=hide hsz;clear hsz;have o0:=bc_ 0 kX rfl;have o1:=bc_ 1 kX rfl;have o2:=bc_ 2 kX rfl;have f0:=blk_frozen kX 0;have f1:=blk_frozen kX 1;have f2:=blk_frozen kX 2;clear kX;go_wp2;refine bodyPost_ret (v:=.tuple #[.agg #[.slice none 0 0,.slice none 0 0,.slice none 0 0],.bool false]) (by simp [results,Tryz.results76,go_sem,o0,o1,o2]) rfl (.inr ⟨fun h=>HSZ.out (HF.out.1 h),rfl,?_⟩);exact ((bX.setCell lr_ _).setCell lr_ _).setCell lr_ _
theorem read_any (s:ByteArray) (w:World) (hs:s.size≤9223372036854775807):Calls Tryz.prog 76 #[.string s] w (RetRead s w):=by
 by_cases h:6≤s.size∧bt s 0=87∧bt s 1=82
 ·exact read_long s w hs h.1 h.2.1 h.2.2
 ·exact read_short s w hs h
def RetUnp (code:Int) (s:ByteArray) (w:World) (e:Ending) (w':World):Prop:=
 (Form s∧Pure.RightP (prgOf s)∧∃ve vr vc,e=.returned (.tuple #[.agg #[ve,vr,vc],.int .i64 0])∧Below w.heap.size w w'∧w'.ownsRow w.heap.size 3 1 ve (nE s) (intCells (prgOf s).ents)∧w'.ownsRow w.heap.size 59 3 vr (nR s) (ruleCells (prgOf s).rules)∧w'.ownsRow w.heap.size 61 4 vc (nC s) (insCells (prgOf s).code))∨
 (¬(Form s∧Pure.RightP (prgOf s))∧e=.returned (.tuple #[.agg #[.slice none 0 0,.slice none 0 0,.slice none 0 0],.int .i64 code])∧Below w.heap.size w w')
theorem unpack_any (s:ByteArray) (w:World) (hs:s.size≤9223372036854775807) :
  Calls Tryz.prog 47 #[.string s] w (RetUnp 2 s w):=by
 have HB0:=hide ((Below.refl w.heap.size w).alloc lr_ (.cells #[.slice none 0 0,.slice none 0 0,.slice none 0 0] 43))
 have kX:Blk (w.alloc (.cells #[.slice none 0 0,.slice none 0 0,.slice none 0 0] 43)) w.heap.size 43 [.slice none 0 0,.slice none 0 0,.slice none 0 0]:=heap_alloc_new _ _
 have sX:(w.alloc (.cells #[.slice none 0 0,.slice none 0 0,.slice none 0 0] 43)).heap.size=w.heap.size+1:=by simp
 have HKX:=hide kX
 have SX:=hide sX
 clear kX sX
 go_enter Tryz.func47,Tryz.ntmps47
 go_wp2_with fail
 refine (read_any s _ hs).mono ?_
 rintro e w1 (⟨hF,ve,vr,vc,rfl,hB1,he,hr,hc⟩ | ⟨hF,rfl,hB1⟩)
 ·have k1:=blk_below HKX.out hB1 (blk_lt HKX.out)
  have bel1:Below w.heap.size w w1:=HB0.out.trans (hB1.mono (by rw [SX.out];omega));rw [SX.out] at he hr hc;have HO:=hide (And.intro he (And.intro hr hc));obtain⟨ae,ce,rfl,-,-,-⟩:=own_read he;obtain⟨ar,cr,rfl,-,-,-⟩:=own_read hr;obtain⟨ac,cc,rfl,-,-,-⟩:=own_read hc;have o0:=bc_ 0 k1 rfl;have hsz1:w.heap.size<w1.heap.size:=blk_lt k1;clear o0 he hr hc hB1;have HF:=hide hF;clear hF
  go_wp2_with fail
  have HK1:=hide (blk_alloc k1 (.cells #[.slice ae (nE s) ce,.slice ar (nR s) cr,.slice ac (nC s) cc] 43));have HP1:Hid (Blk (w1.alloc (.cells #[.slice ae (nE s) ce,.slice ar (nR s) cr,.slice ac (nC s) cc] 43)) w1.heap.size 43 [.slice ae (nE s) ce,.slice ar (nR s) cr,.slice ac (nC s) cc]):=heap_alloc_new _ _;have HBA:=hide (bel1.alloc (by omega) (.cells #[.slice ae (nE s) ce,.slice ar (nR s) cr,.slice ac (nC s) cc] 43));clear k1;refine (right_any _ _ _ (prgOf s) _ (own_ints (World.ownsRow.alloc HO.out.1 _) (entsOf_len _ _ _).symm) (own_rules (World.ownsRow.alloc HO.out.2.1 _) (rulesOf_len _ _ _).symm) (own_code (World.ownsRow.alloc HO.out.2.2 _) (codeOf_len _ _ _).symm)).mono ?_
  rintro e w2 ⟨bb,rfl,hbb,hB2⟩;have k2:=blk_below HK1.out hB2 (blk_lt HK1.out);have p2:=blk_below HP1.out hB2 (blk_lt HP1.out);have bel2:Below w.heap.size w w2:=HBA.out.trans (hB2.mono (by simp;omega));have HO2:=hide (And.intro (own_below (World.ownsRow.alloc HO.out.1 (.cells #[.slice ae (nE s) ce,.slice ar (nR s) cr,.slice ac (nC s) cc] 43)) hB2 lr_) (And.intro (own_below (World.ownsRow.alloc HO.out.2.1 (.cells #[.slice ae (nE s) ce,.slice ar (nR s) cr,.slice ac (nC s) cc] 43)) hB2 lr_) (own_below (World.ownsRow.alloc HO.out.2.2 (.cells #[.slice ae (nE s) ce,.slice ar (nR s) cr,.slice ac (nC s) cc] 43)) hB2 lr_)));have o0:=bc_ 0 k2 rfl;have o1:=bc_ 1 k2 rfl;have o2:=bc_ 2 k2 rfl;have f0:=blk_frozen k2 0;have f1:=blk_frozen k2 1;have f2:=blk_frozen k2 2;have q0:=bc_ 0 p2 rfl;have q1:=bc_ 1 p2 rfl;have q2:=bc_ 2 p2 rfl;clear k2 p2 HK1 HP1 HBA HO hB2;have hne:w1.heap.size≠w.heap.size:=by omega
  cases bb
  ·have HN:Hid (¬(Form s∧Pure.RightP (prgOf s))):=fun h=>Bool.noConfusion (hbb.2 h.2)
   clear hbb;go_wp2;refine bodyPost_ret (v:=.tuple #[.agg #[.slice none 0 0,.slice none 0 0,.slice none 0 0],.int .i64 2]) (by simp [results,Tryz.results47,go_sem,o0,o1,o2]) rfl (.inr ⟨HN.out,rfl,?_⟩);exact ((bel2.setCell lr_ _).setCell lr_ _).setCell lr_ _
  ·have HN:=hide (hbb.1 rfl)
   clear hbb;go_wp2;refine bodyPost_ret (v:=.tuple #[.agg #[.slice ae (nE s) ce,.slice ar (nR s) cr,.slice ac (nC s) cc],.int .i64 0]) (by simp [results,Tryz.results47,go_sem,o0,o1,o2]) rfl (.inl ⟨HF.out,HN.out,_,_,_,rfl,?_,?_,?_,?_⟩)
   ·exact ((bel2.setCell lr_ _).setCell lr_ _).setCell lr_ _
   ·exact own_mono (ownsRow_setCell_below (ownsRow_setCell_below (ownsRow_setCell_below HO2.out.1 (Nat.lt_succ_self _) _) (Nat.lt_succ_self _) _) (Nat.lt_succ_self _) _) (Nat.le_succ _)
   ·exact own_mono (ownsRow_setCell_below (ownsRow_setCell_below (ownsRow_setCell_below HO2.out.2.1 (Nat.lt_succ_self _) _) (Nat.lt_succ_self _) _) (Nat.lt_succ_self _) _) (Nat.le_succ _)
   ·exact own_mono (ownsRow_setCell_below (ownsRow_setCell_below (ownsRow_setCell_below HO2.out.2.2 (Nat.lt_succ_self _) _) (Nat.lt_succ_self _) _) (Nat.lt_succ_self _) _) (Nat.le_succ _)
 ·have k1:=blk_below HKX.out hB1 (blk_lt HKX.out)
  have bel1:Below w.heap.size w w1:=HB0.out.trans (hB1.mono (by rw [SX.out];omega));have HN:Hid (¬(Form s∧Pure.RightP (prgOf s))):=fun h=>hF h.1
  have hsz1:w.heap.size<w1.heap.size:=blk_lt k1;have hne:w1.heap.size≠w.heap.size:=by omega
  have o0:=bc_ 0 k1 rfl;have o1:=bc_ 1 k1 rfl;have o2:=bc_ 2 k1 rfl;have f0:=blk_frozen k1 0;have f1:=blk_frozen k1 1;have f2:=blk_frozen k1 2;clear hF hB1 k1;go_wp2;refine bodyPost_ret (v:=.tuple #[.agg #[.slice none 0 0,.slice none 0 0,.slice none 0 0],.int .i64 2]) (by simp [results,Tryz.results47,go_sem,o0,o1,o2,hsz1]) rfl (.inr ⟨HN.out,rfl,?_⟩);exact (((bel1.setCell lr_ _).setCell lr_ _).setCell lr_ _).alloc (by simp;omega) _
theorem own_drewN {w:World} {base e size n:Nat} {v:Value} {xs:List Value} (h:w.ownsRow base e size v n xs) (m:Nat):(w.drewN m).ownsRow base e size v n xs:=h
theorem own_other {W w':World} {base e size n base' e' size' n':Nat} {v v':Value} {xs xs':List Value} (h:W.ownsRow base e size v n xs) (h':W.ownsRow base' e' size' v' n' xs') (ht:e≠e') (hg:W.grownBy w' v'.ownBlock):w'.ownsRow base e size v n xs:=by
 refine World.ownsRow.kept h hg ?_
 rcases h.2 with ⟨rfl,_⟩ | ⟨g,cap,cur,rfl,_,hgg,_⟩
 ·exact .inl rfl
 ·rcases h'.2 with ⟨rfl,_⟩ | ⟨g',cap',cur',rfl,_,hgg',_⟩
  ·right;simp [Value.ownBlock]
  ·right
   simp only [Value.ownBlock,ne_eq,Option.some.injEq];intro e;subst e;rw [hgg] at hgg';simp at hgg';exact ht hgg'.2
theorem blk_drew {w:World} {g t:Nat} {xs:List Value} (h:Blk w g t xs) (n:Nat):Blk (w.drewN n) g t xs:=h
end Go.Proofs.YtmccnmgaoppogaaGreat
