/-
 The walks: is a rule, is an instruction right?
 The walks: is a rule, is an instruction right?
 The walks: does an instruction end? Is there no way round? (weirref)
 The walks: is there no way round? (weirref)
 The walks: is a program right? (weirref)
 The walks: is a program right? (weirref)
-/
import Derived.Test.YtmccnmgaoppogaaGreatMeA
import Derived.Test.YtmccnmgaoppogaaGreatPuA
import Derived.Test.YtmccnmgaoppogaaGreatWA
import Derived.Deep.RegionWith
import Derived.Deep.Cut
namespace Go.Proofs.YtmccnmgaoppogaaGreat
set_option maxRecDepth 100000
set_option maxHeartbeats 8000000
open Go.RowKit
theorem rightRule_any (r:Pure.Rule) (m:Nat) (w:World) (_hm1:1≤m) (_hm:m≤4) :
  Calls Tryz.prog 67 #[.agg #[.int .i64 r.emit,.int .i64 r.act,.int .i64 r.mode],.int .i64 m] w (RetB (Pure.RuleOK m r) w):=by
 obtain⟨emit,act,mode⟩:=r
 have fin:∀emit act mode:Int,Below w.heap.size w (w.alloc (.cells #[.int .i64 emit,.int .i64 act,.int .i64 mode] 59)):=fun _ _ _=>bn_ _
 go_enter Tryz.func67,Tryz.ntmps67
 go_wp2
 all_goals go_ret
 all_goals refine retB ?_ (fin _ _ _)
 all_goals unfold Pure.RuleOK
 all_goals simp only [beq_iff_eq,Bool.or_eq_true,Bool.false_eq_true,false_iff,true_iff] at *
 all_goals first | omega | skip
 go_ways
theorem rightIns_any (x:Pure.Ins) (k n:Nat) (w:World) (_hk:k≤16) (_hn:n≤50000) :
  Calls Tryz.prog 68 #[.agg #[.int .i64 x.op,.int .i64 x.a,.int .i64 x.b,.int .i64 x.to],.int .i64 k,.int .i64 n] w (RetB (Pure.InsOK k n x) w):=by
 obtain⟨op,a,b,to⟩:=x
 have fin:∀op a b to:Int,Below w.heap.size w (w.alloc (.cells #[.int .i64 op,.int .i64 a,.int .i64 b,.int .i64 to] 61)):=fun _ _ _ _=>bn_ _
 go_enter Tryz.func68,Tryz.ntmps68
 go_wp2
 all_goals go_ret
 all_goals refine retB ?_ (fin _ _ _ _)
 all_goals unfold Pure.InsOK
 all_goals simp only [beq_iff_eq,ne_eq,beq_eq_false_iff_ne,decide_eq_true_eq,Bool.false_eq_true,false_iff] at *
 all_goals first | omega | skip
 go_ways
theorem Tryz.info4 : (Tryz.prog.info? 4).map (fun i=>(i.zero,i.size,i.bytes))=some (some (.bool false),1,1):=by kernel_rfl
def boolCells (l:List Bool):List Value:=l.map Value.bool
theorem boolCells_length (l:List Bool):(boolCells l).length=l.length:=by simp [boolCells]
theorem boolCells_get (l:List Bool) (i:Nat) (h:i<l.length):(boolCells l)[i]?=some (.bool (Pure.bg l i)):=by
 simp [boolCells,Pure.bg,List.getElem?_eq_getElem h]
theorem made_bools (n:Nat):(madeCells (Value.bool false).cells (n*1)).toList=boolCells (List.replicate n false):=by
 simp only [madeCells,boolCells,Value.cells,Nat.mul_one,List.map_replicate]
 rw [List.eq_replicate_iff]
 simp [Nat.mod_one]
theorem boolCells_set (L:List Bool) (v:Nat) (y:Bool):(boolCells L).set v (.bool y)=boolCells (L.set v y):=by
 simp [boolCells,List.map_set]
def EndAt (B:Nat) (wr:World) (g n:Nat) (L:List Bool):Prop:=wr.ownsRow B 4 1 (.slice (some ⟨g,0,none⟩) n n) n (boolCells L)
theorem EndAt.cell {B:Nat} {wr:World} {g n:Nat} {L:List Bool} (h:EndAt B wr g n L) {v:Nat} (hv:v<L.length):wr.cell? ⟨g,v,none⟩=some (.bool (Pure.bg L v)):=by
 have:=h.cells (g:=g) rfl v _ (boolCells_get L v hv)
 by_cases hj:v=0
 ·subst hj;simpa [Addr.add] using this
 ·simpa [Addr.add,hj] using this
theorem EndAt.frozen {B:Nat} {wr:World} {g n:Nat} {L:List Bool} (h:EndAt B wr g n L) (v:Nat):wr.frozen? ⟨g,v,none⟩=false:=World.ownsRow.frozenAt h v
theorem EndAt.store {B:Nat} {wr:World} {g n:Nat} {L:List Bool} (h:EndAt B wr g n L) (v:Nat) (y:Bool):EndAt B (wr.setCell ⟨g,v,none⟩ (.bool y)) g n (L.set v y):=by
 have:=(World.ownsRow.stored h v (.bool y)).1
 rw [boolCells_set] at this
 exact this
theorem ends_any (v:Value) (l:List Pure.Ins) (B g:Nat) (L:List Bool) (i:Int) (w:World) (hv:Code w v l) (hL:EndAt B w g l.length L) (hLl:L.length=l.length) (ht:Pure.Tight l) (_hn:l.length≤50000) (hi0:0≤i) (hi1:i<l.length) :
  Calls Tryz.prog 102 #[v,.slice (some ⟨g,0,none⟩) l.length l.length,.int .i64 i] w fun e w'=>e=.returned (.bool (Pure.endsB l L i.toNat))∧w=w':=by
 obtain⟨k,rfl⟩:=Int.eq_ofNat_of_zero_le hi0
 rw [Int.toNat_natCast]
 have hk:k<l.length:=by omega
 have hT:=ht k hk
 obtain⟨ao,cap,rfl,hc1,hc2,hread⟩:=hv.read
 obtain⟨b,off,rfl,hb,g0,g1,g2,g3⟩:=hread k hk
 clear hread hv hb g1 g2
 by_cases h1:(Pure.cg l k).op=1
 ·have hk1:k+1<l.length:=hT.1 (.inl h1)
  rw [Pure.ends1 h1];have hc:=hL.cell (v:=k+1) (by omega);rw [h1] at g0;clear hT hL ht h1 g3;go_enter Tryz.func102,Tryz.ntmps102;go_wp2;go_ret;exact⟨rfl,rfl⟩
 by_cases h3:(Pure.cg l k).op=3
 ·have hk1:k+1<l.length:=hT.1 (.inr h3)
  have hto:=hT.2 (.inl h3)
  change 0≤(Pure.cg l k).to∧(Pure.cg l k).to<l.length at hto
  rw [Pure.ends3 h3];have hc:=hL.cell (v:=k+1) (by omega);have hd:=hL.cell (v:=(Pure.cg l k).to.toNat) (by omega);rw [h3] at g0;generalize (Pure.cg l k).to=to at *;clear hT hL ht h1 h3;cases hq:Pure.bg L (k+1)
  ·rw [hq] at hc
   go_enter Tryz.func102,Tryz.ntmps102;go_wp2;go_ret;exact⟨ret_bool (by simp),rfl⟩
  ·rw [hq] at hc
   go_enter Tryz.func102,Tryz.ntmps102;go_wp2;go_ret;exact⟨ret_bool (by simp),rfl⟩
 by_cases h4:(Pure.cg l k).op=4
 ·have hto:=hT.2 (.inr h4)
  change 0≤(Pure.cg l k).to∧(Pure.cg l k).to<l.length at hto
  rw [Pure.ends4 h4];have hd:=hL.cell (v:=(Pure.cg l k).to.toNat) (by omega);rw [h4] at g0;generalize (Pure.cg l k).to=to at *;clear hT hL ht h1 h3 h4;go_enter Tryz.func102,Tryz.ntmps102;go_wp2;go_ret;exact⟨rfl,rfl⟩
 ·rw [Pure.ends0 h1 h3 h4]
  generalize (Pure.cg l k).op=op at *;have e1:(op == 1)=false:=by simpa using h1
  have e3:(op == 3)=false:=by simpa using h3
  have e4:(op == 4)=false:=by simpa using h4
  clear hT hL ht g3 h1 h3 h4;go_enter Tryz.func102,Tryz.ntmps102;go_wp2;go_ret;exact⟨rfl,rfl⟩
def boolOf:Value→Nat | .bool true=>1 | _=>0
theorem EndAt.lt {B:Nat} {wr:World} {g n:Nat} {L:List Bool} (h:EndAt B wr g n L):B≤g∧g<wr.heap.size:=World.ownsRow.lt h g rfl
theorem noWay_any (v:Value) (l:List Pure.Ins) (w:World) (hv:Code w v l) (ht:Pure.Tight l) (hn:l.length≤50000) :
  Calls Tryz.prog 69 #[v] w (RetB (Pure.NoWay l) w):=by
 obtain⟨i0,hi,hz0,hz1,hz2⟩:=info_parts Tryz.info4
 have HT:=hide ht
 clear ht
 have HV:=hide hv
 obtain⟨ao,cap,rfl,hc1,hc2,-⟩:=hv.read
 clear hv
 go_enter Tryz.func69,Tryz.ntmps69
 go_wp2_with (at_make;refine wpList_make_full _ rfl _ _ 203 rfl w.heap.size 4 i0 (.bool false) 1 Tryz.underlying203 hi hz0 hz1 _ _ _ _ l.length rfl rfl rfl rfl (by rw [hz2];omega) (by unfold maxLen;omega) lr_ ?_;intro w1 hown hgrow)
 have hbel1:Below w.heap.size w w1:=(Below.refl _ _).grown hgrow lr_ (fun k h=>by cases h)
 rw [made_bools] at hown
 have HO:Hid (EndAt w.heap.size w1 w.heap.size l.length (List.replicate l.length false)):=hown
 clear hown hgrow
 go_loopw [4,5] (fun lf mr wr=>∃(E:List Bool) (more:Bool),lf=.int .i64 ((E.count false:Nat):Int)∧mr=.bool more∧Below w.heap.size w wr∧EndAt w.heap.size wr w.heap.size l.length E∧E.length=l.length∧Pure.Sound l E∧(more=false→Pure.Quiet l E (2*l.length))) (fun lf mr _=>2*(intOf lf).toNat+boolOf mr)
 case atStart=>exact⟨_,true,by simp,rfl,hbel1,HO.out,by simp,Pure.sound_none l _,fun h=>Bool.noConfusion h⟩
 case round=>
  clear HO hbel1;obtain⟨E,more,rfl,rfl,hbel,hE,hEl,hsound,hq⟩:=hrel;cases more
  ·have HF:Hid ((((E.count false:Nat):Int) == 0)=true↔Pure.NoWay l):=Pure.pass_end HT.out ⟨hEl,hsound,lr_,fun h=>Bool.noConfusion h,hq⟩ lr_
   clear hq hsound hE hEl;go_wp2;go_ret;exact retB HF.out hbel
  ·have HP:=hide (Pure.pass_start hEl hsound)
   have hL0:E.count false≤l.length:=by have:=Pure.count_le E;omega
   clear hq hsound hEl;generalize hL:E.count false=L0 at *;have HL:=hide hL;clear hL
   go_wp2_with fail
   go_loopw [4,5,6] (fun lf mr kv wq=>∃(E':List Bool) (more':Bool) (k:Nat),k≤2*l.length∧lf=.int .i64 ((E'.count false:Nat):Int)∧mr=.bool more'∧kv=.int .i64 k∧Below w.heap.size w wq∧EndAt w.heap.size wq w.heap.size l.length E'∧Pure.Pass l E' more' k L0) (fun _ _ kv _=>2*l.length-(intOf kv).toNat)
   case atStart=>exact⟨E,false,0,by omega,by rw [HL.out],rfl,rfl,hbel,hE,HP.out⟩
   case round=>
    clear HP HL hbel hE;obtain⟨E',more',k,hk,rfl,rfl,rfl,hbelq,hEq,hpass⟩:=hrel;have hEl:=hpass.len;have HEl:=hide hEl;have hcl:E'.count false≤l.length:=by have:=Pure.count_le E';omega
    have HP:=hide hpass;clear hpass;by_cases hlt:k<2*l.length
    ·by_cases hkn:k<l.length
     ·have hkd:decide ((l.length:Int)≤(k:Int))=false:=by simp;omega
      have hidx:k<l.length:=by omega
      have hcell:=hEq.cell (v:=k) (by omega);have hfz:=hEq.frozen (k);clear hEl;cases hb:Pure.bg E' (k)
      ·rw [hb] at hcell
       go_wp2_with fail
       refine (ends_any _ l w.heap.size w.heap.size E' (k:Int) _ (HV.out.below hbelq) hEq HEl.out HT.out hn (by omega) (by omega)).mono ?_
       rintro e w' ⟨rfl,rfl⟩;have hix:Int.toNat ((k:Int))=k:=by omega
       rw [hix];clear hix;cases hen:Pure.endsB l E' (k)
       ·go_wp2
        go_roundw
        case rel=>exact⟨E',more',k+1,by omega,rfl,rfl,by go_num,hbelq,hEq,Pure.pass_skip HP.out (fun hkl=>.inr hen)⟩
        case measure=>simp [intOf];omega
       ·have hset:=Pure.pass_set HP.out hidx hb hen
        have HS:=hide hset.1;have hcnt:=hset.2;have hc1:1≤E'.count false:=by omega
        have HCN:Hid (((E'.count false:Nat):Int)-1=(((E'.set (k) true).count false:Nat):Int)):=by show ((E'.count false:Nat):Int)-1=_;omega
        clear hset hcnt;go_wp2
        go_roundw
        case rel=>exact⟨E'.set (k) true,true,k+1,by omega,by rw [HCN.out],rfl,by go_num,hbelq.setCell lr_ _,hEq.store _ _,HS.out⟩
        case measure=>simp [intOf];omega
      ·rw [hb] at hcell
       go_wp2
       go_roundw
       case rel=>exact⟨E',more',k+1,by omega,rfl,rfl,by go_num,hbelq,hEq,Pure.pass_skip HP.out (fun hkl=>.inl hb)⟩
       case measure=>simp [intOf];omega
     ·have hkd:decide ((l.length:Int)≤(k:Int))=true:=by simp;omega
      have hkn':l.length≤k:=by omega
      have hidx:2*l.length-1-k<l.length:=by omega
      have hcell:=hEq.cell (v:=2*l.length-1-k) (by omega);have hfz:=hEq.frozen (2*l.length-1-k);clear hEl;cases hb:Pure.bg E' (2*l.length-1-k)
      ·rw [hb] at hcell
       go_wp2_with fail
       refine (ends_any _ l w.heap.size w.heap.size E' (2*(l.length:Int)-1-(k:Int)) _ (HV.out.below hbelq) hEq HEl.out HT.out hn (by omega) (by omega)).mono ?_
       rintro e w' ⟨rfl,rfl⟩;have hix:Int.toNat ((2*(l.length:Int)-1-(k:Int)))=2*l.length-1-k:=by omega
       rw [hix];clear hix;cases hen:Pure.endsB l E' (2*l.length-1-k)
       ·go_wp2
        go_roundw
        case rel=>exact⟨E',more',k+1,by omega,rfl,rfl,by go_num,hbelq,hEq,Pure.pass_skip HP.out (fun hkl=>absurd hkl (by omega))⟩
        case measure=>simp [intOf];omega
       ·have hset:=Pure.pass_set HP.out hidx hb hen
        have HS:=hide hset.1;have hcnt:=hset.2;have hc1:1≤E'.count false:=by omega
        have HCN:Hid (((E'.count false:Nat):Int)-1=(((E'.set (2*l.length-1-k) true).count false:Nat):Int)):=by show ((E'.count false:Nat):Int)-1=_;omega
        clear hset hcnt;go_wp2
        go_roundw
        case rel=>exact⟨E'.set (2*l.length-1-k) true,true,k+1,by omega,by rw [HCN.out],rfl,by go_num,hbelq.setCell lr_ _,hEq.store _ _,HS.out⟩
        case measure=>simp [intOf];omega
      ·rw [hb] at hcell
       go_wp2
       go_roundw
       case rel=>exact⟨E',more',k+1,by omega,rfl,rfl,by go_num,hbelq,hEq,Pure.pass_skip HP.out (fun hkl=>absurd hkl (by omega))⟩
       case measure=>simp [intOf];omega
    ·have hke:k=2*l.length:=by omega
     have hle:=HP.out.le;have hlm:=HP.out.lt;have HLM:=hide hlm;clear hlm;go_wp2
     go_roundw
     case rel=>exact⟨E',more',rfl,rfl,hbelq,hEq,HEl.out,HP.out.sound,fun hm=>by rw [←hke];exact HP.out.quiet hm⟩
     case measure=>
      have:=HLM.out;cases more'
      ·simp [intOf,boolOf];omega
      ·have:=this rfl;simp [intOf,boolOf];omega
theorem refRight_bad (ve vr vc:Value) (p:Pure.Prg) (w:World) (hE:Ints w ve p.ents) (hR:Rules w vr p.rules) (hC:Code w vc p.code)
  (hbad:¬((1≤p.ents.length∧p.ents.length≤4)∧(1≤p.rules.length∧p.rules.length≤16)∧(1≤p.code.length∧p.code.length≤50000))) :
  Calls Tryz.prog 32 #[.agg #[ve,vr,vc]] w (RetB (Pure.RightP p) w):=by
 obtain⟨ae,ce,rfl,he1,he2,-⟩:=hE.read
 obtain⟨ar,cr,rfl,hr1,hr2,-⟩:=hR.read
 obtain⟨ac,cc,rfl,hc1,hc2,-⟩:=hC.read
 clear hE hR hC
 have fin:Below w.heap.size w (w.alloc (.cells #[.slice ae p.ents.length ce,.slice ar p.rules.length cr,.slice ac p.code.length cc] 43)):=bn_ _
 have FIN:=hide fin
 clear fin
 have HBAD:=hide hbad
 clear hbad
 by_cases hm1:p.ents.length<1
 ·go_enter Tryz.func32,Tryz.ntmps32
  go_wp2;go_ret;exact retB (Pure.false_iff_of (fun h=>by have:=h.1.1;omega)) FIN.out
 by_cases hm4:4<p.ents.length
 ·go_enter Tryz.func32,Tryz.ntmps32
  go_wp2;go_ret;exact retB (Pure.false_iff_of (fun h=>by have:=h.1.1;omega)) FIN.out
 by_cases hk1:p.rules.length<1
 ·go_enter Tryz.func32,Tryz.ntmps32
  go_wp2;go_ret;exact retB (Pure.false_iff_of (fun h=>by have:=h.2.1.1;omega)) FIN.out
 by_cases hk4:16<p.rules.length
 ·go_enter Tryz.func32,Tryz.ntmps32
  go_wp2;go_ret;exact retB (Pure.false_iff_of (fun h=>by have:=h.2.1.1;omega)) FIN.out
 by_cases hn1:p.code.length<1
 ·go_enter Tryz.func32,Tryz.ntmps32
  go_wp2;go_ret;exact retB (Pure.false_iff_of (fun h=>by have:=h.2.2.1.1;omega)) FIN.out
 by_cases hn4:50000<p.code.length
 ·go_enter Tryz.func32,Tryz.ntmps32
  go_wp2;go_ret;exact retB (Pure.false_iff_of (fun h=>by have:=h.2.2.1.1;omega)) FIN.out
 ·exact absurd (HBAD.out) (by omega)
theorem refRight_good (ve vr vc:Value) (p:Pure.Prg) (w:World) (hE:Ints w ve p.ents) (hR:Rules w vr p.rules) (hC:Code w vc p.code)
  (hm1:1≤p.ents.length) (hm4:p.ents.length≤4) (hk1:1≤p.rules.length) (hk4:p.rules.length≤16) (hn1:1≤p.code.length) (hn4:p.code.length≤50000) :
  Calls Tryz.prog 32 #[.agg #[ve,vr,vc]] w (RetB (Pure.RightP p) w):=by
 obtain⟨ae,ce,rfl,he1,he2,hreadE⟩:=hE.read
 obtain⟨ar,cr,rfl,hr1,hr2,hreadR⟩:=hR.read
 obtain⟨ac,cc,rfl,hc1,hc2,hreadC⟩:=hC.read
 have HC:=hide hC
 clear hE hR hC
 have d1:decide ((p.ents.length:Int)<1)=false:=by simp;omega
 have d2:decide (4<(p.ents.length:Int))=false:=by simp;omega
 have d3:decide ((p.rules.length:Int)<1)=false:=by simp;omega
 have d4:decide (16<(p.rules.length:Int))=false:=by simp;omega
 have d5:decide ((p.code.length:Int)<1)=false:=by simp;omega
 have d6:decide (50000<(p.code.length:Int))=false:=by simp;omega
 go_enter Tryz.func32,Tryz.ntmps32
 go_wp2
 have hW0b:Below w.heap.size w (w.alloc (.cells #[.slice ae p.ents.length ce,.slice ar p.rules.length cr,.slice ac p.code.length cc] 43)):=bn_ _
 have hW0s:(w.alloc (.cells #[.slice ae p.ents.length ce,.slice ar p.rules.length cr,.slice ac p.code.length cc] 43)).heap.size=w.heap.size+1:=by simp
 have c0:(w.alloc (.cells #[.slice ae p.ents.length ce,.slice ar p.rules.length cr,.slice ac p.code.length cc] 43)).cell? ⟨w.heap.size,0,none⟩=some (.slice ae p.ents.length ce):=by simp
 have c1:(w.alloc (.cells #[.slice ae p.ents.length ce,.slice ar p.rules.length cr,.slice ac p.code.length cc] 43)).cell? ⟨w.heap.size,1,none⟩=some (.slice ar p.rules.length cr):=by simp
 have c2:(w.alloc (.cells #[.slice ae p.ents.length ce,.slice ar p.rules.length cr,.slice ac p.code.length cc] 43)).cell? ⟨w.heap.size,2,none⟩=some (.slice ac p.code.length cc):=by simp
 generalize w.alloc (.cells #[.slice ae p.ents.length ce,.slice ar p.rules.length cr,.slice ac p.code.length cc] 43)=W0 at *
 have HS:=hide hW0s
 clear hW0s
 go_loop [5] (fun i=>∃k:Nat,k≤p.ents.length∧i=.int .i64 k∧∀j,j<k→0≤Pure.ig p.ents j∧Pure.ig p.ents j<p.code.length) (fun i=>p.ents.length-(intOf i).toNat)
 case atStart=>exact⟨0,Nat.zero_le _,rfl,fun j hj=>by omega⟩
 case round=>
  obtain⟨k,hk,rfl,hall⟩:=hrel;have HA:=hide hall;clear hall;by_cases hlt:k<p.ents.length
  ·obtain⟨b,off,rfl,hb,hcell⟩:=hreadE k hlt
   have g0:=(hW0b.cell (p:=⟨b,off+k,none⟩) hb).trans hcell;clear hreadE hreadR hreadC hcell;by_cases hx0:Pure.ig p.ents k<0
   ·have hd:decide (Pure.ig p.ents k<0)=true:=by simpa using hx0
    go_wp2;go_ret;exact retB (Pure.false_iff_of (fun h=>by have:=h.1.2 k hlt;omega)) hW0b
   by_cases hx1:Pure.ig p.ents k<p.code.length
   ·have hd:decide (Pure.ig p.ents k<0)=false:=by simpa using hx0
    go_wp2
    go_round
    case rel=>exact⟨k+1,by omega,by go_num,Pure.upto_succ HA.out (by omega)⟩
    case measure=>simp [intOf];omega
   ·have hd:decide (Pure.ig p.ents k<0)=false:=by simpa using hx0
    go_wp2;go_ret;exact retB (Pure.false_iff_of (fun h=>by have:=h.1.2 k hlt;omega)) hW0b
  ·have hkl:k=p.ents.length:=by omega
   subst hkl;have HEO:Hid (Pure.EntsOK p.ents p.code.length):=⟨⟨hm1,hm4⟩,HA.out⟩;clear HA hreadE hlt hk
   go_wp2_with fail
   go_loopw [6] (fun i wr=>∃k:Nat,k≤p.rules.length∧i=.int .i64 k∧Below (w.heap.size+1) W0 wr∧∀j,j<k→Pure.RuleOK p.ents.length (Pure.rg p.rules j)) (fun i _=>p.rules.length-(intOf i).toNat)
   case atStart=>exact⟨0,Nat.zero_le _,rfl,Below.refl _ _,fun j hj=>by omega⟩
   case round=>
    obtain⟨k,hk,rfl,hbel,hall⟩:=hrel;have HA:=hide hall;clear hall;have q0:=(hbel.cell (p:=⟨w.heap.size,0,none⟩) (by simp)).trans c0;have q1:=(hbel.cell (p:=⟨w.heap.size,1,none⟩) (by simp)).trans c1;have q2:=(hbel.cell (p:=⟨w.heap.size,2,none⟩) (by simp)).trans c2;by_cases hlt:k<p.rules.length
    ·obtain⟨b,off,rfl,hb,e0,e1,e2⟩:=hreadR k hlt
     have g0:=(hbel.cell (p:=⟨b,off+k*3,none⟩) (by simp;omega)).trans ((hW0b.cell (p:=⟨b,off+k*3,none⟩) hb).trans e0);have g1:=(hbel.cell (p:=⟨b,off+k*3+1,none⟩) (by simp;omega)).trans ((hW0b.cell (p:=⟨b,off+k*3+1,none⟩) hb).trans e1);have g2:=(hbel.cell (p:=⟨b,off+k*3+2,none⟩) (by simp;omega)).trans ((hW0b.cell (p:=⟨b,off+k*3+2,none⟩) hb).trans e2);clear hreadR hreadC e0 e1 e2
     go_wp2_with fail
     refine (rightRule_any (Pure.rg p.rules k) p.ents.length _ hm1 hm4).mono ?_
     rintro e w1 ⟨bb,rfl,hbb,hb1⟩;have hbel1:Below (w.heap.size+1) W0 w1:=hbel.trans (hb1.mono (by have:=hbel.size;rw [HS.out] at this;exact this));clear g0 g1 g2 hb1 q0 q1 q2;cases bb
     ·go_wp2
      go_ret;exact retB (Pure.false_iff_of (fun h=>Bool.noConfusion (hbb.2 (h.2.1.2 k hlt)))) (hW0b.trans (hbel1.mono (by omega)))
     ·have HB:=hide (hbb.1 rfl)
      clear hbb;go_wp2
      go_roundw
      case rel=>exact⟨k+1,by omega,by go_num,hbel1,Pure.upto_succ HA.out HB.out⟩
      case measure=>simp [intOf];omega
    ·have hkl:k=p.rules.length:=by omega
     subst hkl;have HRO:Hid (Pure.RulesOK p.rules p.ents.length):=⟨⟨hk1,hk4⟩,HA.out⟩;clear HA hreadR hlt hk q0 q2
     go_wp2_with fail
     go_loopw [8] (fun i wr=>∃k:Nat,k≤p.code.length∧i=.int .i64 k∧Below (w.heap.size+1) W0 wr∧∀j,j<k→Pure.InsOK p.rules.length p.code.length (Pure.cg p.code j)) (fun i _=>p.code.length-(intOf i).toNat)
     case atStart=>exact⟨0,Nat.zero_le _,rfl,hbel,fun j hj=>by omega⟩
     case round=>
      clear hbel q1;obtain⟨k,hk,rfl,hbel,hall⟩:=hrel;have HA:=hide hall;clear hall;have q1:=(hbel.cell (p:=⟨w.heap.size,1,none⟩) (by simp)).trans c1;have q2:=(hbel.cell (p:=⟨w.heap.size,2,none⟩) (by simp)).trans c2;by_cases hlt:k<p.code.length
      ·obtain⟨b,off,rfl,hb,e0,e1,e2,e3⟩:=hreadC k hlt
       have g0:=(hbel.cell (p:=⟨b,off+k*4,none⟩) (by simp;omega)).trans ((hW0b.cell (p:=⟨b,off+k*4,none⟩) hb).trans e0);have g1:=(hbel.cell (p:=⟨b,off+k*4+1,none⟩) (by simp;omega)).trans ((hW0b.cell (p:=⟨b,off+k*4+1,none⟩) hb).trans e1);have g2:=(hbel.cell (p:=⟨b,off+k*4+2,none⟩) (by simp;omega)).trans ((hW0b.cell (p:=⟨b,off+k*4+2,none⟩) hb).trans e2);have g3:=(hbel.cell (p:=⟨b,off+k*4+3,none⟩) (by simp;omega)).trans ((hW0b.cell (p:=⟨b,off+k*4+3,none⟩) hb).trans e3);clear hreadC e0 e1 e2 e3
       go_wp2_with fail
       go_region_with (go_at_call 68;refine (rightIns_any (Pure.cg p.code k) p.rules.length p.code.length _ hk4 hn4).mono ?_;rintro e w1 ⟨bb,rfl,hbb,hb1⟩)
       all_goals
        have hbel1:Below (w.heap.size+1) W0 w1:=hbel.drew.trans (hb1.mono (by have:=hbel.size;rw [HS.out] at this;simpa using this));clear g0 g1 g2 g3 hb1 q1 q2;cases bb
        ·go_wp2
         go_ret;exact retB (Pure.false_iff_of (fun h=>Bool.noConfusion (hbb.2 (h.2.2.1.2.1 k hlt)))) (hW0b.trans (hbel1.mono (by omega)))
        ·have HB:=hide (hbb.1 rfl)
         clear hbb;go_wp2
         go_roundw
         case rel=>exact⟨k+1,by omega,by go_num,hbel1,Pure.upto_succ HA.out HB.out⟩
         case measure=>simp [intOf];omega
      ·have hkl:k=p.code.length:=by omega
       subst hkl;obtain⟨b,off,rfl,hb,e0,-⟩:=hreadC (p.code.length-1) (by omega);have g0:=(hbel.cell (p:=⟨b,off+(p.code.length-1)*4,none⟩) (by simp;omega)).trans ((hW0b.cell (p:=⟨b,off+(p.code.length-1)*4,none⟩) hb).trans e0);clear hreadC e0 q1;generalize hx:(Pure.cg p.code (p.code.length-1)).op=x at *;have HX:=hide hx;clear hx;by_cases e45:x=4∨x=5
       ·have HCO:Hid (Pure.CodeOK p.code p.rules.length):=⟨⟨hn1,hn4⟩,HA.out,by rw [HX.out];exact e45⟩
        have hz:W0.heap.size≤wr.heap.size:=hbel.size;have hCw:Hid (Code wr (.slice (some ⟨b,off,none⟩) p.code.length cc) p.code):=HC.out.below (hW0b.trans (hbel.mono (by omega)));have hbw:Below w.heap.size w wr:=hW0b.trans (hbel.mono (by omega));by_cases e4:x=4
        ·have e4':(x != 4)=false:=by simp [e4]
         clear e45 e4
         go_wp2_with fail
         refine (noWay_any _ p.code _ hCw.out HCO.out.tight (by omega)).mono ?_
         rintro e w4 ⟨b4,rfl,hb4,hB4⟩;have hbel4:=bel0 hbw hB4;go_wp2;go_ret;exact retB ⟨fun h=>⟨HEO.out,HRO.out,HCO.out,hb4.1 h⟩,fun h=>hb4.2 h.2.2.2⟩ hbel4
        ·have e4':(x != 4)=true:=by simpa using e4
         have e5':(x != 5)=false:=by simp;omega
         clear e45 e4
         go_wp2_with fail
         refine (noWay_any _ p.code _ hCw.out HCO.out.tight (by omega)).mono ?_
         rintro e w4 ⟨b4,rfl,hb4,hB4⟩;have hbel4:=bel0 hbw hB4;go_wp2;go_ret;exact retB ⟨fun h=>⟨HEO.out,HRO.out,HCO.out,hb4.1 h⟩,fun h=>hb4.2 h.2.2.2⟩ hbel4
       ·have e4':(x != 4)=true:=by simp;omega
        have e5':(x != 5)=true:=by simp;omega
        have HE:=hide e45;clear e45;go_wp2;go_ret;exact retB (Pure.false_iff_of (fun h=>HE.out (by rw [←HX.out];exact h.2.2.1.2.2))) (hW0b.trans (hbel.mono (by omega)))
theorem refRight_any (ve vr vc:Value) (p:Pure.Prg) (w:World) (hE:Ints w ve p.ents) (hR:Rules w vr p.rules) (hC:Code w vc p.code) :
  Calls Tryz.prog 32 #[.agg #[ve,vr,vc]] w (RetB (Pure.RightP p) w):=by
 by_cases h:(1≤p.ents.length∧p.ents.length≤4)∧(1≤p.rules.length∧p.rules.length≤16)∧(1≤p.code.length∧p.code.length≤50000)
 ·exact refRight_good ve vr vc p w hE hR hC h.1.1 h.1.2 h.2.1.1 h.2.1.2 h.2.2.1 h.2.2.2
 ·exact refRight_bad ve vr vc p w hE hR hC h
end Go.Proofs.YtmccnmgaoppogaaGreat
