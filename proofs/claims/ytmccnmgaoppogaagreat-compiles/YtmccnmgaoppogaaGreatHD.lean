/-
 The walks: rows of truth values. (weirref)
 The walks: rows of rows of truth values. (weirref)
-/
import Derived.Test.YtmccnmgaoppogaaGreatHF
namespace Go.Proofs.YtmccnmgaoppogaaGreat
set_option maxRecDepth 100000
set_option maxHeartbeats 8000000
open Go.RowKit
def bln (n:Nat) (f:Nat→Bool):List Value:=(List.range n).map (fun i=>.bool (f i))
theorem bln_length (n:Nat) (f:Nat→Bool):(bln n f).length=n:=by simp [bln]
theorem bln_get {n:Nat} (f:Nat→Bool) {i:Nat} (h:i<n):(bln n f)[i]?=some (.bool (f i)):=by simp [bln,h]
theorem bln_congr {n:Nat} {f g:Nat→Bool} (h:∀i,i<n→f i=g i):bln n f=bln n g:=by
 unfold bln
 refine List.map_congr_left (fun i hi=>?_)
 rw [h i (List.mem_range.1 hi)]
def setB (f:Nat→Bool) (k:Nat) (b:Bool):Nat→Bool:=fun i=>if i=k then b else f i
theorem bln_set (n:Nat) (f:Nat→Bool) (k:Nat) (b:Bool):(bln n f).set k (.bool b)=bln n (setB f k b):=by
 refine List.ext_getElem? (fun i=>?_)
 rw [List.getElem?_set]
 unfold bln setB
 by_cases hi:i<n
 ·by_cases hk:k=i
  ·subst hk
   simp [hi]
  ·rw [if_neg hk]
   simp [hi,Ne.symm hk]
 ·simp [hi]
  intro _;omega
theorem bln_zero (n:Nat):bln n (fun _=>false)=List.replicate n (.bool false):=by
 unfold bln
 rw [List.map_const',List.length_range]
theorem bool_info:(Tryz.prog.info? 4).map (fun i=>(i.zero,i.size,i.bytes))=some (some (.bool false),1,1):=by kernel_rfl
def Bl (W:World) (g n:Nat) (f:Nat→Bool):Prop:=Blk W g 4 (bln n f)
theorem made_bool (n:Nat):madeCells (Value.bool false).cells (n*1)=(bln n (fun _=>false)).toArray:=by
 rw [bln_zero]
 unfold madeCells
 refine Array.ext (by simp) (fun i h1 h2=>?_)
 simp [Value.cells,Nat.mod_one]
theorem make_bool (n:Nat) (hn:n≤100000) (w:World):(Instr.makeSlice 203 (.int .i64 (n:Int)) (.int .i64 (n:Int))).run Tryz.prog w=.ok (.slice (some ⟨w.heap.size,0,none⟩) n n) (w.alloc (.cells (bln n (fun _=>false)).toArray 4)):=by
 obtain⟨i,h1,h2,h3,h4⟩:=info_parts bool_info
 have:=run_make (P:=Tryz.prog) w 203 4 i (.bool false) Tryz.underlying203 h1 h2 .i64 .i64 (n:Int) (n:Int) (by omega) (Int.le_refl _) (by rw [h4];omega) (by omega)
 rw [this,h3,Int.toNat_natCast,made_bool]
def RetBl (n:Nat) (f:Nat→Bool) (w:World) (e:Ending) (w':World):Prop:=
 ∃g,e=.returned (.slice (some ⟨g,0,none⟩) n n)∧Below w.heap.size w w'∧w.heap.size≤g∧Bl w' g n f
theorem both_any (n ga gb:Nat) (f1 f2:Nat→Bool) (w:World) (h1:Bl w ga n f1) (h2:Bl w gb n f2) (hn:n≤100000) :
  Calls Tryz.prog 97 #[.slice (some ⟨ga,0,none⟩) n n,.slice (some ⟨gb,0,none⟩) n n] w (RetBl n (fun i=>f1 i || f2 i) w):=by
 have hmk:=make_bool n hn
 have B0:Hid (Below w.heap.size w (w.alloc (.cells (bln n (fun _=>false)).toArray 4))):=bn_ _
 have O0:Hid (Bl (w.alloc (.cells (bln n (fun _=>false)).toArray 4)) w.heap.size n (fun _=>false)):=heap_alloc_new _ _
 have H1:=hide h1
 have H2:=hide h2
 have la:=blk_lt h1
 have lb:=blk_lt h2
 clear h1 h2
 go_enter Tryz.func97,Tryz.ntmps97
 go_wp2_with fail
 go_loopg [6,10] n (fun gk kv _ wx=>∃k:Nat,k≤n∧gk=n-k∧kv=.int .i64 k∧Below w.heap.size w wx∧Bl wx w.heap.size n (fun i=>decide (i<k) && (f1 i || f2 i)))
 case atStart=>exact⟨0,Nat.zero_le _,rfl,rfl,B0.out,by have:=O0.out;unfold Bl at *;rw [bln_congr (g:=fun _=>false) (fun i _=>by simp)];exact this⟩
 case round=>
  clear B0 O0 hmk;obtain⟨k,kn,rfl,rfl,hb,ho⟩:=hrel;by_cases hk:k<n
  ·have d1:=dl_ (k:Int) (n:Int) (by omega)
   have wi:=wr_ (k:Int) (by omega) (by omega);have i0:=nz_ k;have i1:(k:Int)<(n:Int):=by omega
   have ca:=blk_cell (blk_below H1.out hb la) (bln_get f1 hk);have cb:=blk_cell (blk_below H2.out hb lb) (bln_get f2 hk);have co:=blk_cell ho (bln_get _ hk);have fo:=blk_frozen ho k;have HB:=hide hb;have HO:=hide ho;clear hb ho
   have NEXT:Hid (∀b,b=(f1 k || f2 k)→Bl (wr.setCell ⟨w.heap.size,k,none⟩ (.bool b)) w.heap.size n (fun i=>decide (i<k+1) && (f1 i || f2 i))):=by
    intro b hb;have:=blk_set HO.out k (.bool b);rw [bln_set] at this;unfold Bl;rw [bln_congr (g:=setB (fun i=>decide (i<k) && (f1 i || f2 i)) k b)]
    ·exact this
    ·intro i _
     unfold setB;by_cases hi:i=k
     ·subst hi
      simp [hb]
     ·rw [if_neg hi]
      have:decide (i<k+1)=decide (i<k):=by simp only [decide_eq_decide];omega
      rw [this]
   have BE:Hid (∀b,Below w.heap.size w (wr.setCell ⟨w.heap.size,k,none⟩ (.bool b))):=fun b=>HB.out.setCell lr_ _
   clear HB HO
   cases e1:f1 k with
   | true=>
    rw [e1] at ca;have N1:=NEXT.out true (by rw [e1];rfl);have HN:=hide N1;clear N1 NEXT e1;go_wp2;go_roundg (n-(k+1))
    case measure=>omega
    case rel=>exact⟨k+1,by omega,rfl,by go_num,BE.out _,HN.out⟩
   | false=>
    rw [e1] at ca;have N1:=NEXT.out (f2 k) (by rw [e1];rfl);have HN:=hide N1;clear N1 NEXT e1;go_wp2;go_roundg (n-(k+1))
    case measure=>omega
    case rel=>exact⟨k+1,by omega,rfl,by go_num,BE.out _,HN.out⟩
  ·have d1:=df_ (k:Int) (n:Int) (by omega)
   have ek:k=n:=by omega
   subst ek;have HB:=hide hb
   have HO:Hid (Bl wr w.heap.size k (fun i=>f1 i || f2 i)):=by
    unfold Bl Hid;rw [bln_congr (g:=fun i=>decide (i<k) && (f1 i || f2 i)) (fun i hi=>by simp [hi])];exact ho
   clear hb ho;go_wp2;go_ret;exact⟨_,rfl,HB.out,lr_,HO.out⟩
namespace Pure
def cntB (f:Nat→Bool):Nat→Nat
 | 0=>0
 | n+1=>cntB f n+(if f n=true then 1 else 0)
theorem cntB_le (f:Nat→Bool):∀n,cntB f n≤n
 | 0=>lr_
 | n+1=>by have:=cntB_le f n;unfold cntB;split <;> omega
theorem cntB_zero (f:Nat→Bool):∀n,cntB f n=0↔∀i,i<n→f i=false
 | 0=>by simp [cntB]
 | n+1=>by
  have ih:=cntB_zero f n;unfold cntB;constructor
  ·intro h i hi
   by_cases e:i=n
   ·subst e
    cases hf:f i with
    | true=>rw [hf] at h;simp at h
    | false=>rfl
   ·exact ih.1 (by omega) i (by omega)
  ·intro h
   have:=h n (by omega);rw [this,ih.2 (fun i hi=>h i (by omega))];rfl
end Pure
theorem count_any (n ga:Nat) (f:Nat→Bool) (w:World) (h1:Bl w ga n f) (hn:n≤100000) :
  Calls Tryz.prog 100 #[.slice (some ⟨ga,0,none⟩) n n] w (RetVal (.int .i64 (Pure.cntB f n:Int)) w):=by
 have H1:=hide h1
 have la:=blk_lt h1
 clear h1
 go_enter Tryz.func100,Tryz.ntmps100
 go_wp2_with fail
 go_loopg [3,4,5] n (fun gk nv kv _ wx=>∃k:Nat,k≤n∧gk=n-k∧nv=.int .i64 (Pure.cntB f k:Int)∧kv=.int .i64 k∧Below w.heap.size w wx)
 case atStart=>exact⟨0,Nat.zero_le _,rfl,rfl,rfl,Below.refl _ _⟩
 case round=>
  obtain⟨k,kn,rfl,rfl,rfl,hb⟩:=hrel;have cl:=Pure.cntB_le f k;by_cases hk:k<n
  ·have d1:=dl_ (k:Int) (n:Int) (by omega)
   have wi:=wr_ (k:Int) (by omega) (by omega);have wc:IntKind.i64.wrap ((Pure.cntB f k:Int)+1)=(Pure.cntB f k:Int)+1:=wrap_in _ (by omega) (by omega);have i0:=nz_ k;have i1:(k:Int)<(n:Int):=by omega
   have ca:=blk_cell (blk_below H1.out hb la) (bln_get f hk);have HB:=hide hb;clear hb
   cases e1:f k with
   | true=>
    rw [e1] at ca;have NX:Hid (Pure.cntB f (k+1)=Pure.cntB f k+1):=by show _=_;rw [Pure.cntB,if_pos e1]
    clear e1;go_wp2;go_roundg (n-(k+1))
    case measure=>omega
    case rel=>exact⟨k+1,by omega,rfl,by rw [NX.out];go_num,by go_num,HB.out⟩
   | false=>
    rw [e1] at ca;have NX:Hid (Pure.cntB f (k+1)=Pure.cntB f k):=by show _=_;rw [Pure.cntB,e1];rfl
    clear e1;go_wp2;go_roundg (n-(k+1))
    case measure=>omega
    case rel=>exact⟨k+1,by omega,rfl,by rw [NX.out],by go_num,HB.out⟩
  ·have d1:=df_ (k:Int) (n:Int) (by omega)
   have ek:k=n:=by omega
   subst ek;have HB:=hide hb;clear hb;go_wp2;go_ret;exact⟨rfl,HB.out⟩
namespace Pure
def alk (n:Nat) (f g:Nat→Bool):Bool:=decide (∀i,i<n→f i=g i)
end Pure
theorem alike_any (n ga gb:Nat) (f1 f2:Nat→Bool) (w:World) (h1:Bl w ga n f1) (h2:Bl w gb n f2) (hn:n≤100000) :
  Calls Tryz.prog 124 #[.slice (some ⟨ga,0,none⟩) n n,.slice (some ⟨gb,0,none⟩) n n] w (RetVal (.bool (Pure.alk n f1 f2)) w):=by
 have H1:=hide h1
 have H2:=hide h2
 have la:=blk_lt h1
 have lb:=blk_lt h2
 clear h1 h2
 go_enter Tryz.func124,Tryz.ntmps124
 go_wp2_with fail
 go_loopg [5,6] n (fun gk kv _ wx=>∃k:Nat,k≤n∧gk=n-k∧kv=.int .i64 k∧Below w.heap.size w wx∧∀i,i<k→f1 i=f2 i)
 case atStart=>exact⟨0,Nat.zero_le _,rfl,rfl,Below.refl _ _,fun i hi=>absurd hi (Nat.not_lt_zero _)⟩
 case round=>
  obtain⟨k,kn,rfl,rfl,hb,he⟩:=hrel;have HE:=hide he;have HB:=hide hb;clear he;by_cases hk:k<n
  ·have d1:=dl_ (k:Int) (n:Int) (by omega)
   have wi:=wr_ (k:Int) (by omega) (by omega);have i0:=nz_ k;have i1:(k:Int)<(n:Int):=by omega
   have ca:=blk_cell (blk_below H1.out hb la) (bln_get f1 hk);have cb:=blk_cell (blk_below H2.out hb lb) (bln_get f2 hk);clear hb;by_cases e:f1 k=f2 k
   ·have e1:(f1 k == f2 k)=true:=by simp [e]
    have HN:Hid (∀i,i<k+1→f1 i=f2 i):=fun i hi=>by
     by_cases hi':i=k
     ·rw [hi'];exact e
     ·exact HE.out i (by omega)
    clear e HE;generalize f1 k=b1 at *;generalize f2 k=b2 at *
    go_wp2_with fail
    go_quiet (fail);have dn:=hide (below_drewN HB.out nq);go_wp2;go_roundg (n-(k+1))
    case measure=>omega
    case rel=>exact⟨k+1,by omega,rfl,by go_num,dn.out,HN.out⟩
   ·have e1:(f1 k == f2 k)=false:=by simp [e]
    have R:Hid (Pure.alk n f1 f2=false):=decide_eq_false (fun h=>e (h k hk));clear e HE;generalize f1 k=b1 at *;generalize f2 k=b2 at *
    go_wp2_with fail
    go_quiet (fail);have dn:=hide (below_drewN HB.out nq);go_wp2;go_ret;exact⟨by rw [R.out];rfl,dn.out⟩
  ·have d1:=df_ (k:Int) (n:Int) (by omega)
   have ek:k=n:=by omega
   subst ek;have R:Hid (Pure.alk k f1 f2=true):=decide_eq_true HE.out;clear HE hb;go_wp2;go_ret;exact⟨by rw [R.out];rfl,HB.out⟩
def blsC (n:Nat) (gs:List Nat):List Value:=gs.map (fun g=>.slice (some ⟨g,0,none⟩) n n)
theorem blsC_length (n:Nat) (gs:List Nat):(blsC n gs).length=gs.length:=by simp [blsC]
theorem blsC_get {n:Nat} {gs:List Nat} {i g:Nat} (h:gs[i]?=some g):(blsC n gs)[i]?=some (.slice (some ⟨g,0,none⟩) n n):=by simp [blsC,h]
theorem blsC_append (n:Nat) (a b:List Nat):blsC n (a++b)=blsC n a++blsC n b:=by simp [blsC]
theorem blsC_ones (n:Nat) (gs:List Nat):∀u∈blsC n gs,u.oneCell'=true:=by
 intro u hu
 simp only [blsC,List.mem_map] at hu
 obtain⟨g,_,rfl⟩:=hu
 rfl
structure Bls (B:Nat) (W:World) (v:Value) (n:Nat) (gs:List Nat) (fs:List (Nat→Bool)):Prop where
 own:W.ownsRow B 203 1 v gs.length (blsC n gs)
 len:gs.length=fs.length
 row:∀(i g:Nat) (f:Nat→Bool),gs[i]?=some g→fs[i]?=some f→Bl W g n f
theorem Bls.below {B:Nat} {W W':World} {v:Value} {n:Nat} {gs:List Nat} {fs:List (Nat→Bool)} (h:Bls B W v n gs fs) (hb:Below W.heap.size W W'):Bls B W' v n gs fs:=
 ⟨own_below h.own hb lr_,h.len,fun i g f h1 h2=>blk_below (h.row i g f h1 h2) hb (blk_lt (h.row i g f h1 h2))⟩
namespace Pure
def plc (n:Nat) (s:Nat→Bool):List (Nat→Bool)→Nat→Int
 | [],_=>-1
 | f::r,k=>if alk n f s=true then (k:Int) else plc n s r (k+1)
end Pure
theorem place_any (B n gb:Nat) (v:Value) (gs:List Nat) (f0:Nat→Bool) (fs:List (Nat→Bool)) (s:Nat→Bool) (w:World) (h1:Bls B w v n gs (f0::fs)) (h2:Bl w gb n s) (hn:n≤100000) (hl:fs.length≤100000) :
  Calls Tryz.prog 101 #[v,.slice (some ⟨gb,0,none⟩) n n] w (RetVal (.int .i64 (Pure.plc n s fs 1)) w):=by
 have len:=h1.len
 rw [List.length_cons] at len
 obtain⟨gv,cap,rfl,hc1,hc2⟩:=own_some h1.own (by omega)
 rw [len]
 have H1:=hide h1
 have H2:=hide h2
 clear h1 h2
 go_enter Tryz.func101,Tryz.ntmps101
 go_wp2_with fail
 go_loopg [5,6,7] fs.length (fun gk kv _ _ wx=>∃k:Nat,k≤fs.length∧gk=fs.length-k∧kv=.int .i64 ((k:Int)+1)∧Below w.heap.size w wx∧Pure.plc n s (fs.drop k) (k+1)=Pure.plc n s fs 1)
 case atStart=>exact⟨0,Nat.zero_le _,rfl,rfl,Below.refl _ _,rfl⟩
 case round=>
  obtain⟨k,kn,rfl,rfl,hb,he⟩:=hrel;have HE:=hide he;have HB:=hide hb;clear he;by_cases hk:k<fs.length
  ·have d1:decide ((k:Int)+1<(fs.length:Int)+1)=true:=decide_eq_true (by omega)
   have wi:IntKind.i64.wrap ((k:Int)+1+1)=(k:Int)+1+1:=wrap_in _ (by omega) (by omega);have i0:(0:Int)≤(k:Int)+1:=by omega
   have i1:(k:Int)+1<(fs.length:Int)+1:=by omega
   obtain⟨gk,hgk⟩:∃g,gs[k+1]?=some g:=⟨_,List.getElem?_eq_getElem (by omega)⟩;obtain⟨f,hf⟩:=gx_ fs k hk;have hX:=H1.out.below hb;have cg:wr.cell? ⟨gv,k+1,none⟩=some (.slice (some ⟨gk,0,none⟩) n n):=own_cell hX.own (blsC_get hgk);have tn:((k:Int)+1).toNat=k+1:=by omega
   have CALL:=hide (alike_any n gk gb f s wr (hX.row (k+1) gk f hgk (by rw [List.getElem?_cons_succ];exact hf)) (blk_below H2.out hb (blk_lt H2.out)) hn)
   have ST:Hid (Pure.plc n s fs 1=if Pure.alk n f s=true then ((k+1:Nat):Int) else Pure.plc n s (fs.drop (k+1)) (k+1+1)):=by
    show _=_;rw [←HE.out];rw [show fs.drop k=f::fs.drop (k+1) by rw [List.drop_eq_getElem?_toList_append,hf];rfl];rfl
   clear hX hb HE hgk hf
   go_wp2_with fail
   refine CALL.out.mono ?_
   clear CALL;rintro e w2 ⟨rfl,hb2⟩;have B2:=hide (HB.out.trans (hb2.mono HB.out.size));clear hb2
   cases hq:Pure.alk n f s with
   | true=>
    rw [hq] at ST;have R:Hid (Pure.plc n s fs 1=(k:Int)+1):=ST.out;clear ST;go_wp2;go_ret;exact⟨by rw [R.out];rfl,B2.out⟩
   | false=>
    rw [hq] at ST;have R:Hid (Pure.plc n s (fs.drop (k+1)) (k+1+1)=Pure.plc n s fs 1):=ST.out.symm;clear ST;go_wp2;go_roundg (fs.length-(k+1))
    case measure=>omega
    case rel=>exact⟨k+1,by omega,rfl,by go_num,B2.out,R.out⟩
  ·have d1:decide ((k:Int)+1<(fs.length:Int)+1)=false:=decide_eq_false (by omega)
   have ek:k=fs.length:=by omega
   have R:Hid (Pure.plc n s fs 1=-1):=by
    show _=_;rw [←HE.out,ek,List.drop_length];rfl
   clear HE hb;go_wp2;go_ret;exact⟨by rw [R.out];rfl,HB.out⟩
end Go.Proofs.YtmccnmgaoppogaaGreat
