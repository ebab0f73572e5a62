/-
 The walks: is a rule, is an instruction right?
 The walks: are the entries, the rules, the instructions right? (program)
 The walks: how often each instruction follows one; which follow none. (program)
 The walks: which instructions follow none. (program)
 The walks: is there a way round? (program)
 The walks: is a program right? (program)
-/
import Derived.Test.YtmccnmgaoppogaaGreatMeA
import Derived.Test.YtmccnmgaoppogaaGreatPuA
namespace Go.Proofs.YtmccnmgaoppogaaGreat
set_option maxRecDepth 100000
set_option maxHeartbeats 8000000
open Go.RowKit
theorem insRight_any (x:Pure.Ins) (k n:Nat) (w:World) (_hk:k≤16) (_hn:n≤50000) :
  Calls Tryz.prog 135 #[.agg #[.int .i64 x.op,.int .i64 x.a,.int .i64 x.b,.int .i64 x.to],.int .i64 k,.int .i64 n] w (RetB (Pure.InsOK k n x) w):=by
 obtain⟨op,a,b,to⟩:=x
 have fin:∀op a b to:Int,Below w.heap.size w (w.alloc (.cells #[.int .i64 op,.int .i64 a,.int .i64 b,.int .i64 to] 61)):=fun _ _ _ _=>bn_ _
 go_enter Tryz.func135,Tryz.ntmps135
 go_wp2
 all_goals go_ret
 all_goals refine retB ?_ (fin _ _ _ _)
 all_goals unfold Pure.InsOK
 all_goals simp only [beq_iff_eq,ne_eq,beq_eq_false_iff_ne,decide_eq_true_eq,Bool.false_eq_true,false_iff] at *
 all_goals first | omega | skip
 go_ways
theorem entriesRight_any (v:Value) (l:List Int) (n:Nat) (w:World) (hv:Ints w v l) (_hn:n≤9223372036854775807) :
  Calls Tryz.prog 106 #[v,.int .i64 n] w (RetB (Pure.EntsOK l n) w):=by
 obtain⟨ao,cap,rfl,hc1,hc2,hread⟩:=hv.read
 clear hv
 by_cases h1:l.length<1
 ·go_enter Tryz.func106,Tryz.ntmps106
  go_wp2;go_ret;exact retB (Pure.false_iff_of (Pure.ents_short (by omega))) (Below.refl _ _)
 by_cases h4:4<l.length
 ·go_enter Tryz.func106,Tryz.ntmps106
  go_wp2;go_ret;exact retB (Pure.false_iff_of (Pure.ents_short (by omega))) (Below.refl _ _)
 go_enter Tryz.func106,Tryz.ntmps106
 go_wp2
 go_loop [17] (fun i=>∃k:Nat,k≤l.length∧i=.int .i64 k∧∀j,j<k→0≤Pure.ig l j∧Pure.ig l j<n) (fun i=>l.length-(intOf i).toNat)
 case atStart=>exact⟨0,Nat.zero_le _,rfl,fun j hj=>by omega⟩
 case round=>
  obtain⟨k,hk,rfl,hall⟩:=hrel;have HA:=hide hall;clear hall;by_cases hlt:k<l.length
  ·obtain⟨b,off,rfl,hb,hcell⟩:=hread k hlt
   clear hread;cases hbel:Pure.bel (Pure.ig l k) n
   ·go_wp2_with (go_at_call 133;refine (below_any _ _ _).mono ?_;rintro e w' ⟨rfl,rfl⟩)
    go_ret;exact retB (Pure.false_iff_of (Pure.ents_bad hlt (Pure.of_not_bel hbel))) (Below.refl _ _)
   ·go_wp2_with (go_at_call 133;refine (below_any _ _ _).mono ?_;rintro e w' ⟨rfl,rfl⟩)
    go_round
    case rel=>exact⟨k+1,by omega,by go_num,Pure.upto_succ HA.out (Pure.of_bel hbel)⟩
    case measure=>simp [intOf];omega
  ·go_wp2
   go_ret;have:k=l.length:=by omega
   subst this;exact retB (Pure.true_iff_of ⟨by omega,HA.out⟩) (Below.refl _ _)
theorem rulesRight_any (v:Value) (l:List Pure.Rule) (m:Nat) (w:World) (hv:Rules w v l) (hm1:1≤m) (hm:m≤4) :
  Calls Tryz.prog 107 #[v,.int .i64 m] w (RetB (Pure.RulesOK l m) w):=by
 obtain⟨ao,cap,rfl,hc1,hc2,hread⟩:=hv.read
 clear hv
 by_cases h1:l.length<1
 ·go_enter Tryz.func107,Tryz.ntmps107
  go_wp2;go_ret;exact retB (Pure.false_iff_of (Pure.rules_short (by omega))) (Below.refl _ _)
 by_cases h4:16<l.length
 ·go_enter Tryz.func107,Tryz.ntmps107
  go_wp2;go_ret;exact retB (Pure.false_iff_of (Pure.rules_short (by omega))) (Below.refl _ _)
 go_enter Tryz.func107,Tryz.ntmps107
 go_wp2
 go_loopw [17] (fun i wr=>∃k:Nat,k≤l.length∧i=.int .i64 k∧Below w.heap.size w wr∧∀j,j<k→Pure.RuleOK m (Pure.rg l j)) (fun i _=>l.length-(intOf i).toNat)
 case atStart=>exact⟨0,Nat.zero_le _,rfl,Below.refl _ _,fun j hj=>by omega⟩
 case round=>
  obtain⟨k,hk,rfl,hbel,hall⟩:=hrel;have HA:=hide hall;clear hall;by_cases hlt:k<l.length
  ·obtain⟨b,off,rfl,hb,hc0,hc1',hc2'⟩:=hread k hlt
   clear hread;have g0:=(hbel.cell (p:=⟨b,off+k*3,none⟩) hb).trans hc0;have g1:=(hbel.cell (p:=⟨b,off+k*3+1,none⟩) hb).trans hc1';have g2:=(hbel.cell (p:=⟨b,off+k*3+2,none⟩) hb).trans hc2';clear hc0 hc1' hc2'
   go_wp2_with fail
   refine (ruleRight_any (Pure.rg l k) m _ hm1 hm).mono ?_
   rintro e w1 ⟨bb,rfl,hbb,hb1⟩;have hbel1:=bel1 hbel hb1;clear g0 g1 g2 hb1;cases bb
   ·go_wp2
    go_ret;exact retB (Pure.false_iff_of (Pure.rules_bad hlt (fun h=>Bool.noConfusion (hbb.2 h)))) hbel1
   ·have HB:=hide (hbb.1 rfl)
    clear hbb;go_wp2
    go_roundw
    case rel=>exact⟨k+1,by omega,by go_num,hbel1,Pure.upto_succ HA.out HB.out⟩
    case measure=>simp [intOf];omega
  ·go_wp2
   go_ret;have:k=l.length:=by omega
   subst this;exact retB (Pure.true_iff_of ⟨by omega,HA.out⟩) hbel
theorem codeRight_any (v:Value) (l:List Pure.Ins) (m:Nat) (w:World) (hv:Code w v l) (hm:m≤16) :
  Calls Tryz.prog 108 #[v,.int .i64 m] w (RetB (Pure.CodeOK l m) w):=by
 obtain⟨ao,cap,rfl,hc1,hc2,hread⟩:=hv.read
 clear hv
 by_cases h1:l.length<1
 ·go_enter Tryz.func108,Tryz.ntmps108
  go_wp2;go_ret;exact retB (Pure.false_iff_of (Pure.code_short (by omega))) (Below.refl _ _)
 by_cases h4:50000<l.length
 ·go_enter Tryz.func108,Tryz.ntmps108
  go_wp2;go_ret;exact retB (Pure.false_iff_of (Pure.code_short (by omega))) (Below.refl _ _)
 go_enter Tryz.func108,Tryz.ntmps108
 go_wp2
 go_loopw [18] (fun i wr=>∃k:Nat,k≤l.length∧i=.int .i64 k∧Below w.heap.size w wr∧∀j,j<k→Pure.InsOK m l.length (Pure.cg l j)) (fun i _=>l.length-(intOf i).toNat)
 case atStart=>exact⟨0,Nat.zero_le _,rfl,Below.refl _ _,fun j hj=>by omega⟩
 case round=>
  obtain⟨k,hk,rfl,hbel,hall⟩:=hrel;have HA:=hide hall;clear hall;by_cases hlt:k<l.length
  ·obtain⟨b,off,rfl,hb,hc0,hc1',hc2',hc3'⟩:=hread k hlt
   clear hread;have g0:=(hbel.cell (p:=⟨b,off+k*4,none⟩) hb).trans hc0;have g1:=(hbel.cell (p:=⟨b,off+k*4+1,none⟩) hb).trans hc1';have g2:=(hbel.cell (p:=⟨b,off+k*4+2,none⟩) hb).trans hc2';have g3:=(hbel.cell (p:=⟨b,off+k*4+3,none⟩) hb).trans hc3';clear hc0 hc1' hc2' hc3'
   go_wp2_with fail
   refine (insRight_any (Pure.cg l k) m l.length _ hm (by omega)).mono ?_
   rintro e w1 ⟨bb,rfl,hbb,hb1⟩;have hbel1:=bel1 hbel hb1;clear g0 g1 g2 g3 hb1;cases bb
   ·go_wp2
    go_ret;exact retB (Pure.false_iff_of (Pure.code_bad hlt (fun h=>Bool.noConfusion (hbb.2 h)))) hbel1
   ·have HB:=hide (hbb.1 rfl)
    clear hbb;go_wp2
    go_roundw
    case rel=>exact⟨k+1,by omega,by go_num,hbel1,Pure.upto_succ HA.out HB.out⟩
    case measure=>simp [intOf];omega
  ·have hkl:k=l.length:=by omega
   subst hkl;obtain⟨b,off,rfl,hb,hc0,-⟩:=hread (l.length-1) (by omega);have g0:=(hbel.cell (p:=⟨b,off+(l.length-1)*4,none⟩) hb).trans hc0;clear hread hc0;generalize hx:(Pure.cg l (l.length-1)).op=x at *;have HX:=hide hx;clear hx;by_cases e4:x=4
   ·have e4':(x == 4)=true:=by simpa using e4
    clear e4;go_wp2;go_ret;exact retB (Pure.true_iff_of ⟨by omega,HA.out,.inl (by rw [HX.out];simpa using e4')⟩) hbel
   ·have e4':(x == 4)=false:=by simpa using e4
    by_cases e5:x=5
    ·have e5':(x == 5)=true:=by simpa using e5
     clear e4 e5;go_wp2;go_ret;exact retB (Pure.true_iff_of ⟨by omega,HA.out,.inr (by rw [HX.out];simpa using e5')⟩) hbel
    ·have e5':(x == 5)=false:=by simpa using e5
     have HE:Hid (¬(x=4∨x=5)):=by intro h;rcases h with h | h;exact e4 h;exact e5 h
     clear e4 e5;go_wp2;go_ret;exact retB (Pure.false_iff_of (Pure.code_last (by rw [HX.out];exact HE.out))) hbel
theorem Tryz.info3 : (Tryz.prog.info? 3).map (fun i=>(i.zero,i.size,i.bytes))=some (some (.int .i64 0),1,8):=by kernel_rfl
theorem made_ints (n:Nat):(madeCells (Value.int .i64 0).cells (n*1)).toList=intCells (List.replicate n 0):=by
 simp only [madeCells,intCells,Value.cells,Nat.mul_one,List.map_replicate]
 rw [List.eq_replicate_iff]
 simp [Nat.mod_one]
theorem intCells_set (L:List Int) (v:Nat) (y:Int):(intCells L).set v (.int .i64 y)=intCells (L.set v y):=by
 simp [intCells,List.map_set]
def LeadsAt (w wr:World) (g n:Nat) (L:List Int):Prop:=wr.ownsRow w.heap.size 3 1 (.slice (some ⟨g,0,none⟩) n n) n (intCells L)
theorem LeadsAt.cell {w wr:World} {g n:Nat} {L:List Int} (h:LeadsAt w wr g n L) {v:Nat} (hv:v<L.length):wr.cell? ⟨g,v,none⟩=some (.int .i64 (Pure.ig L v)):=by
 have:=h.cells (g:=g) rfl v _ (intCells_get L v hv)
 unfold Pure.ig
 by_cases hj:v=0
 ·subst hj;simpa [Addr.add] using this
 ·simpa [Addr.add,hj] using this
theorem LeadsAt.frozen {w wr:World} {g n:Nat} {L:List Int} (h:LeadsAt w wr g n L) (v:Nat):wr.frozen? ⟨g,v,none⟩=false:=
 World.ownsRow.frozenAt h v
theorem LeadsAt.store {w wr:World} {g n:Nat} {L:List Int} (h:LeadsAt w wr g n L) (v:Nat) (y:Int):LeadsAt w (wr.setCell ⟨g,v,none⟩ (.int .i64 y)) g n (L.set v y):=by
 have:=(World.ownsRow.stored h v (.int .i64 y)).1
 rw [intCells_set] at this
 exact this
def RetLeads (l:List Pure.Ins) (w:World) (e:Ending) (w':World):Prop:=∃g L,e=.returned (.slice (some ⟨g,0,none⟩) l.length l.length)∧Below w.heap.size w w'∧LeadsAt w w' g l.length L∧Pure.Cnt l L (Pure.tg l (List.range l.length))
theorem countLeads_any (v:Value) (l:List Pure.Ins) (w:World) (hv:Code w v l) (ht:Pure.Tight l) (hn:l.length≤50000) :
  Calls Tryz.prog 136 #[v] w (RetLeads l w):=by
 obtain⟨i0,hi,hz0,hz1,hz2⟩:=info_parts Tryz.info3
 have HT:=hide ht
 clear ht
 obtain⟨ao,cap,rfl,hc1,hc2,hread⟩:=hv.read
 clear hv
 go_enter Tryz.func136,Tryz.ntmps136
 go_wp2_with (at_make;refine wpList_make_full _ rfl _ _ 31 rfl w.heap.size 3 i0 (.int .i64 0) 1 Tryz.underlying31 hi hz0 hz1 _ _ _ _ l.length rfl rfl rfl rfl (by rw [hz2];omega) (by unfold maxLen;omega) lr_ ?_;intro w1 hown hgrow)
 have hbel1:Below w.heap.size w w1:=(Below.refl _ _).grown hgrow lr_ (fun k h=>by cases h)
 rw [made_ints] at hown
 have HO:=hide hown
 clear hown hgrow
 go_loopw [13] (fun i wr=>∃k:Nat,k≤l.length∧i=.int .i64 k∧Below w.heap.size w wr∧∃L,LeadsAt w wr w.heap.size l.length L∧Pure.Cnt l L (Pure.tg l (List.range k))) (fun i _=>l.length-(intOf i).toNat)
 case atStart=>exact⟨0,Nat.zero_le _,rfl,hbel1,_,HO.out,Pure.cnt_start l⟩
 case round=>
  clear HO hbel1;obtain⟨k,hk,rfl,hbel,L,hL,hcnt⟩:=hrel;have HC:=hide hcnt;clear hcnt;by_cases hlt:k<l.length
  ·obtain⟨b,off,rfl,hb,hc0,hc1',hc2',hc3'⟩:=hread k hlt
   clear hread;have g0:=(hbel.cell (p:=⟨b,off+k*4,none⟩) hb).trans hc0;have g1:=(hbel.cell (p:=⟨b,off+k*4+1,none⟩) hb).trans hc1';have g2:=(hbel.cell (p:=⟨b,off+k*4+2,none⟩) hb).trans hc2';have g3:=(hbel.cell (p:=⟨b,off+k*4+3,none⟩) hb).trans hc3';clear hc0 hc1' hc2' hc3'
   go_wp2_with fail
   refine (followers_any (Pure.cg l k) k _ (by omega) (by omega)).mono ?_
   rintro e w2 ⟨rfl,hb2⟩;have hbel2:=bel1 hbel hb2;have hL2:LeadsAt w w2 w.heap.size l.length L:=own_below (own_below hL ((Below.refl wr.heap.size wr).alloc lr_ _) lr_) hb2 lr_;clear g0 g1 g2 g3 hb2 hL;generalize hA:Pure.fa (Pure.cg l k) (k:Int)=a;generalize hB:Pure.fb (Pure.cg l k)=a';have HA:=hide hA;have HB:=hide hB;clear hA hB
   go_wp2_with fail
   go_loopw [21] (fun j wq=>∃jn:Nat,jn≤2∧j=.int .i64 jn∧Below w.heap.size w wq∧∃L',LeadsAt w wq w.heap.size l.length L'∧Pure.Cnt l L' (Pure.partI l k jn)) (fun j _=>2-(intOf j).toNat)
   case atStart=>exact⟨0,by omega,rfl,hbel2,L,hL2,HC.out⟩
   case round=>
    clear hbel2 hL2 HC;obtain⟨jn,hjn,rfl,hbelq,L',hLq,hcnt⟩:=hrel;have HC:=hide hcnt;clear hcnt;have f0:∀w,(Instr.index 252 (.agg #[.int .i64 a,.int .i64 a']) (.int .i64 0)).run Tryz.prog w=.ok (.int .i64 a) w:=fun _=>by kernel_rfl
    have f1:∀w,(Instr.index 252 (.agg #[.int .i64 a,.int .i64 a']) (.int .i64 1)).run Tryz.prog w=.ok (.int .i64 a') w:=fun _=>by kernel_rfl
    match jn,hjn with
    | 0,_=>
     cases hbl:Pure.bel a l.length
     ·go_wp2_with (go_at_call 133;refine (below_any _ _ _).mono ?_;rintro e w' ⟨rfl,rfl⟩)
      go_roundw
      case rel=>exact⟨1,by omega,rfl,hbelq,L',hLq,Pure.cnt_no0 HT.out hlt HA.out HC.out hbl⟩
      case measure=>simp [intOf]
     ·have hlen:=HC.out.1
      have hpl:=Pure.partI_len l k 0;have hab:=Pure.of_bel hbl;have hbd:=HC.out.bd (v:=a.toNat) (by omega);have hcell:=hLq.cell (v:=a.toNat) (by omega);have hfz:=hLq.frozen a.toNat;clear hlen
      go_wp2_with (go_at_call 133;refine (below_any _ _ _).mono ?_;rintro e w' ⟨rfl,rfl⟩)
      go_roundw
      case rel=>exact⟨1,by omega,rfl,hbelq.setCell lr_ _,_,hLq.store _ _,Pure.cnt_yes0 HT.out hlt HA.out HC.out hbl⟩
      case measure=>simp [intOf]
    | 1,_=>
     cases hbl:Pure.bel a' l.length
     ·go_wp2_with (go_at_call 133;refine (below_any _ _ _).mono ?_;rintro e w' ⟨rfl,rfl⟩)
      go_roundw
      case rel=>exact⟨2,by omega,rfl,hbelq,L',hLq,Pure.cnt_no1 HT.out hlt HB.out HC.out hbl⟩
      case measure=>simp [intOf]
     ·have hlen:=HC.out.1
      have hpl:=Pure.partI_len l k 1;have hab:=Pure.of_bel hbl;have hbd:=HC.out.bd (v:=a'.toNat) (by omega);have hcell:=hLq.cell (v:=a'.toNat) (by omega);have hfz:=hLq.frozen a'.toNat;clear hlen
      go_wp2_with (go_at_call 133;refine (below_any _ _ _).mono ?_;rintro e w' ⟨rfl,rfl⟩)
      go_roundw
      case rel=>exact⟨2,by omega,rfl,hbelq.setCell lr_ _,_,hLq.store _ _,Pure.cnt_yes1 HB.out HC.out hbl⟩
      case measure=>simp [intOf]
    | 2,_=>
     clear f0 f1;go_wp2
     go_roundw
     case rel=>exact⟨k+1,by omega,by go_num,hbelq,L',hLq,by rw [←Pure.partI_two];exact HC.out⟩
     case measure=>simp [intOf];omega
  ·have hkl:k=l.length:=by omega
   subst hkl;go_wp2;go_ret;exact⟨_,L,rfl,hbel,hL,HC.out⟩
def FreeAt (B:Nat) (wr:World) (g n:Nat) (q:List Nat):Prop:=wr.ownsRow B 3 1 (.slice (some ⟨g,0,none⟩) q.length n) q.length (intCells (Pure.nats q))
theorem cell_new {w:World} {x:Value} {t:TypeId} (j:Nat) (u:Value) (h:[x][j]?=some u):(w.alloc (.cells #[x] t)).cell? ((⟨w.heap.size,0,none⟩:Addr).add j)=some u:=by
 match j,h with
 | 0,h=>simp at h;subst h;simp [Addr.add]
theorem FreeAt.cell {B:Nat} {wr:World} {g n:Nat} {q:List Nat} (h:FreeAt B wr g n q) {t:Nat} (ht:t<q.length):wr.cell? ⟨g,t,none⟩=some (.int .i64 ((Pure.qg q t:Nat):Int)):=by
 have:=h.cells (g:=g) rfl t _ (intCells_get (Pure.nats q) t (by rw [Pure.nats_len];exact ht))
 have e:(Pure.nats q).getD t 0=((Pure.qg q t:Nat):Int):=Pure.nats_get q t
 rw [e] at this
 by_cases hj:t=0
 ·subst hj;simpa [Addr.add] using this
 ·simpa [Addr.add,hj] using this
theorem FreeAt.snoc {B:Nat} {wr:World} {g n k:Nat} {q:List Nat} {a:Int} (ha:0≤a) (hk:k=q.length+1) (h:wr.ownsRow B 3 1 (.slice (some ⟨g,0,none⟩) k n) k (intCells (Pure.nats q)++[.int .i64 a])):FreeAt B wr g n (q++[a.toNat]):=by
 unfold FreeAt
 rw [Pure.nats_snoc q a ha]
 subst hk
 simpa [intCells] using h
def RetFree (L:List Int) (n:Nat) (w:World) (e:Ending) (w':World):Prop:=∃g,e=.returned (.slice (some ⟨g,0,none⟩) (Pure.fr L n).length n)∧Below w.heap.size w w'∧FreeAt w.heap.size w' g n (Pure.fr L n)
theorem unled_any (ao:Option Addr) (cap:Nat) (L:List Int) (w:World) (hv:Ints w (.slice ao L.length cap) L) (hn:L.length≤50000) :
  Calls Tryz.prog 137 #[.slice ao L.length cap] w (RetFree L L.length w):=by
 obtain⟨i0,hi,hz0,hz1,hz2⟩:=info_parts Tryz.info3
 obtain⟨ao',cap',he,hc1,hc2,hread⟩:=hv.read
 simp only [Value.slice.injEq,true_and] at he
 obtain⟨rfl,rfl⟩:=he
 clear hv
 go_enter Tryz.func137,Tryz.ntmps137
 go_wp2_with (at_make;refine wpList_make_own _ rfl _ _ 31 rfl w.heap.size 3 i0 (.int .i64 0) 1 Tryz.underlying31 hi hz0 hz1 _ _ _ L.length rfl rfl rfl (by rw [hz2];omega) (by unfold maxLen;omega) lr_ ?_;intro w1 hown hgrow)
 have hbel1:Below w.heap.size w w1:=(Below.refl _ _).grown hgrow lr_ (fun k h=>by cases h)
 have HO:Hid (FreeAt w.heap.size w1 w.heap.size L.length (Pure.fr L 0)):=hown
 clear hown hgrow
 go_loopw [3,11] (fun f i wr=>∃k:Nat,k≤L.length∧i=.int .i64 k∧f=.slice (some ⟨w.heap.size,0,none⟩) (Pure.fr L k).length L.length∧Below w.heap.size w wr∧FreeAt w.heap.size wr w.heap.size L.length (Pure.fr L k)) (fun _ i _=>L.length-(intOf i).toNat)
 case atStart=>exact⟨0,Nat.zero_le _,rfl,rfl,hbel1,HO.out⟩
 case round=>
  clear HO hbel1;obtain⟨k,hk,rfl,rfl,hbel,hF⟩:=hrel;by_cases hlt:k<L.length
  ·obtain⟨b,off,rfl,hb,hc0⟩:=hread k hlt
   clear hread;have g0:=(hbel.cell (p:=⟨b,off+k,none⟩) hb).trans hc0;clear hc0;have hfl:=Pure.fr_len L k;cases hz:(Pure.ig L k == 0)
   ·go_wp2
    go_roundw
    case rel=>exact⟨k+1,by omega,by go_num,by rw [Pure.fr_no L k hz],hbel,by rw [Pure.fr_no L k hz];exact hF⟩
    case measure=>simp [intOf];omega
   ·have HF:=hide hF
    clear hF
    go_wp2_with (at_builtin;refine wpList_append_fits _ rfl (.tmp 18) (.tmp 20) 31 rfl w.heap.size 3 i0 1 Tryz.underlying31 hi hz1 w.heap.size (Pure.fr L k).length L.length (intCells (Pure.nats (Pure.fr L k))) rfl (World.ownsRow.alloc HF.out _) ⟨wr.heap.size,0,none⟩ 1 1 [.int .i64 (k:Int)] rfl rfl cell_new (by intro u hu;simp at hu;subst hu;rfl) (by omega) ?_;intro w2 hown2 hgrow2)
    have hF2:=FreeAt.snoc (by omega) rfl hown2;rw [Int.toNat_natCast,←Pure.fr_yes L k hz] at hF2;have hbel2:Below w.heap.size w w2:=(hbel.alloc hbel.size _).grown hgrow2 (by have:=hbel.size;simp;omega) (fun k' h=>by simp at h;omega);have hlen2:(Pure.fr L (k+1)).length=(Pure.fr L k).length+1:=by rw [Pure.fr_yes L k hz];simp
    have HL:=hide hlen2;clear hown2 hgrow2 hlen2;go_wp2
    go_roundw
    case rel=>exact⟨k+1,by omega,by go_num,by rw [HL.out],hbel2,hF2⟩
    case measure=>simp [intOf];omega
  ·have hkl:k=L.length:=by omega
   subst hkl;go_wp2;go_ret;exact⟨_,rfl,hbel,hF⟩
theorem cell_new2 {w:World} {x:Value} {t:TypeId} {n:Nat} (hn:n=w.heap.size) (j:Nat) (u:Value) (h:[x][j]?=some u):(w.alloc (.cells #[x] t)).cell? ((⟨n,0,none⟩:Addr).add j)=some u:=by
 subst hn;exact cell_new j u h
theorem LeadsAt.toInts {w wr:World} {g n:Nat} {L:List Int} (h:LeadsAt w wr g n L) (hn:L.length=n):Ints wr (.slice (some ⟨g,0,none⟩) L.length n) L:=by
 subst hn
 exact own_ints h rfl
theorem FreeAt.other {B:Nat} {w wr:World} {g g' n m:Nat} {q:List Nat} {L:List Int} (h:FreeAt B wr g n q) (hL:LeadsAt w wr g' m L) (hne:g≠g') (v:Nat) (y:Value):FreeAt B (wr.setCell ⟨g',v,none⟩ y) g n q:=by
 refine World.ownsRow.kept h (World.ownsRow.stored hL v y).2 (.inr ?_)
 simp [Value.ownBlock];exact hne
theorem LeadsAt.lt {w wr:World} {g n:Nat} {L:List Int} (h:LeadsAt w wr g n L):w.heap.size≤g∧g<wr.heap.size:=World.ownsRow.lt h g rfl
theorem LeadsAt.grown {w wr w2:World} {g g' n:Nat} {L:List Int} (h:LeadsAt w wr g n L) (hg:wr.grownBy w2 (some g')) (hne:g≠g'):LeadsAt w w2 g n L:=
 World.ownsRow.kept h hg (.inr (by simp [Value.ownBlock];exact hne))
theorem hasLoop_any (v:Value) (l:List Pure.Ins) (w:World) (hv:Code w v l) (ht:Pure.Tight l) (hn:l.length≤50000) :
  Calls Tryz.prog 109 #[v] w (RetB (¬Pure.NoWay l) w):=by
 obtain⟨i0,hi,hz0,hz1,hz2⟩:=info_parts Tryz.info3
 have HT:=hide ht
 clear ht
 have HV:=hide hv
 obtain⟨ao,cap,rfl,hc1,hc2,hread⟩:=hv.read
 clear hv
 go_enter Tryz.func109,Tryz.ntmps109
 go_wp2_with fail
 refine (countLeads_any _ l w HV.out HT.out hn).mono ?_
 rintro e w1 ⟨gl,L,rfl,hb1,hL,hcnt⟩
 have hLl:L.length=l.length:=hcnt.1
 have hI:=hL.toInts hLl
 have HC:=hide hcnt
 rw [hLl] at hI
 have HLl:=hide hLl
 clear hcnt hLl
 go_wp2_with fail
 have hU:=unled_any (some ⟨gl,0,none⟩) l.length L w1 (by rw [HLl.out];exact hI) (by rw [HLl.out];exact hn)
 rw [HLl.out] at hU
 refine hU.mono ?_
 rintro e w2 ⟨gf,rfl,hb2,hF⟩
 clear hU hI
 have hbel2:=bel0 hb1 hb2
 have hL2:LeadsAt w w2 gl l.length L:=own_below hL hb2 lr_
 have hgl:=hL.lt
 have hgf:w1.heap.size≤gf:=(World.ownsRow.lt hF gf rfl).1
 have hne:gf≠gl:=by omega
 have hw1:=hb1.size
 have hgl':w.heap.size≤gl:=hgl.1
 have hgf':w.heap.size≤gf:=by omega
 have HI:Hid (Pure.Inv l L (Pure.fr L l.length) [] []):=Pure.inv_first HC.out
 have HF:=hide hF
 have HL2:=hide hL2
 have HB2:=hide hbel2
 clear hL hL2 hF hb1 hb2 hgl hw1 HC HLl hbel2
 go_wp2_with fail
 go_loopw [4,5] (fun f t wr=>∃(q:List Nat) (tn:Nat) (L':List Int),tn≤q.length∧f=.slice (some ⟨gf,0,none⟩) q.length l.length∧t=.int .i64 tn∧Below w.heap.size w wr∧LeadsAt w wr gl l.length L'∧FreeAt w1.heap.size wr gf l.length q∧Pure.Inv l L' q (q.take tn) []) (fun _ t _=>l.length-(intOf t).toNat)
 case atStart=>exact⟨Pure.fr L l.length,0,L,Nat.zero_le _,rfl,rfl,HB2.out,HL2.out,HF.out,HI.out⟩
 case round=>
  clear HF HL2 HB2 HI;obtain⟨q,tn,L',htn,rfl,rfl,hbel,hL,hF,hinv⟩:=hrel;have hql:=hinv.len_le;have HI:=hide hinv;clear hinv;by_cases hlt:tn<q.length
  ·obtain⟨hI1,hat⟩:=Pure.inv_begin HI.out hlt
   have HI1:=hide hI1;clear hI1 HI;have hfc:=hF.cell hlt;generalize hat':Pure.qg q tn=a at *;clear hat';obtain⟨b,off,rfl,hb,hc0,hc1',hc2',hc3'⟩:=hread a hat;clear hread;have g0:=(hbel.cell (p:=⟨b,off+a*4,none⟩) hb).trans hc0;have g1:=(hbel.cell (p:=⟨b,off+a*4+1,none⟩) hb).trans hc1';have g2:=(hbel.cell (p:=⟨b,off+a*4+2,none⟩) hb).trans hc2';have g3:=(hbel.cell (p:=⟨b,off+a*4+3,none⟩) hb).trans hc3';clear hc0 hc1' hc2' hc3'
   go_wp2_with fail
   refine (followers_any (Pure.cg l a) a _ (by omega) (by omega)).mono ?_
   rintro e w3 ⟨rfl,hb3⟩;have hbel3:=bel0 hbel hb3;have hL3:LeadsAt w w3 gl l.length L':=own_below hL hb3 lr_;have hF3:FreeAt w1.heap.size w3 gf l.length q:=own_below hF hb3 lr_;clear g0 g1 g2 g3 hb3 hL hF hfc hbel;generalize hA:Pure.fa (Pure.cg l a) (a:Int)=x;generalize hB:Pure.fb (Pure.cg l a)=x';have HA:=hide hA;have HB:=hide hB;clear hA hB;have HTL:Hid ((q.take (tn+1)).length=tn+1):=by show (q.take (tn+1)).length=tn+1;rw [List.length_take];omega
   generalize hTT:q.take (tn+1)=T at *;clear hTT
   go_wp2_with fail
   go_loopw [4,29] (fun f j wq=>∃(jn:Nat) (q':List Nat) (L'':List Int),jn≤2∧j=.int .i64 jn∧f=.slice (some ⟨gf,0,none⟩) q'.length l.length∧Below w.heap.size w wq∧LeadsAt w wq gl l.length L''∧FreeAt w1.heap.size wq gf l.length q'∧Pure.Inv l L'' q' T (Pure.rest l a jn)) (fun _ j _=>2-(intOf j).toNat)
   case atStart=>exact⟨0,q,L',by omega,rfl,rfl,hbel3,hL3,hF3,HI1.out⟩
   case round=>
    clear hbel3 hL3 hF3 HI1;obtain⟨jn,q',L'',hjn,rfl,rfl,hbelq,hLq,hFq,hinv⟩:=hrel;have hql':=hinv.len_le;have HJ:=hide hinv;clear hinv;have f0:∀w,(Instr.index 252 (.agg #[.int .i64 x,.int .i64 x']) (.int .i64 0)).run Tryz.prog w=.ok (.int .i64 x) w:=fun _=>by kernel_rfl
    have f1:∀w,(Instr.index 252 (.agg #[.int .i64 x,.int .i64 x']) (.int .i64 1)).run Tryz.prog w=.ok (.int .i64 x') w:=fun _=>by kernel_rfl
    match jn,hjn with
    | 0,_=>
     cases hbl:Pure.bel x l.length
     ·go_wp2_with (go_at_call 133;refine (below_any _ _ _).mono ?_;rintro e w' ⟨rfl,rfl⟩)
      go_roundw
      case rel=>exact⟨1,q',L'',by omega,rfl,rfl,hbelq,hLq,hFq,Pure.inv_no0 HT.out hat HA.out HJ.out hbl⟩
      case measure=>simp [intOf]
     ·have hlen:=HJ.out.len
      have hab:=Pure.of_bel hbl;have hbd:=Pure.inv_bd HJ.out (v:=x.toNat) (by omega);have hcell:=hLq.cell (v:=x.toNat) (by omega);have hfz:=hLq.frozen x.toNat;have hyes:=Pure.inv_yes0 HT.out hat HA.out HJ.out hbl;have HY:=hide hyes;clear hlen hyes;cases hz:(Pure.ig L'' x.toNat-1 == 0)
      ·go_wp2_with (go_at_call 133;refine (below_any _ _ _).mono ?_;rintro e w' ⟨rfl,rfl⟩)
       go_roundw
       case rel=>exact⟨1,q',_,by omega,rfl,rfl,hbelq.setCell hgl' _,hLq.store _ _,hFq.other hLq hne _ _,HY.out.2 hz⟩
       case measure=>simp [intOf]
      ·have hI':=HY.out.1 hz
       have hqq:=hI'.len_le;simp only [List.length_append,List.length_singleton] at hqq;have HI':=hide hI';clear hI' HY;have HF':Hid (FreeAt w1.heap.size (wr.setCell ⟨gl,x.toNat,none⟩ (.int .i64 (Pure.ig L'' x.toNat-1))) gf l.length q'):=hFq.other hLq hne _ _
       go_wp2_with (first | (go_at_call 133;refine (below_any _ _ _).mono ?_;rintro e w' ⟨rfl,rfl⟩) | (at_builtin;refine wpList_append_fits _ rfl (.tmp 48) (.tmp 50) 31 rfl w1.heap.size 3 i0 1 Tryz.underlying31 hi hz1 gf q'.length l.length (intCells (Pure.nats q')) rfl (World.ownsRow.alloc HF'.out _) ⟨wr.heap.size,0,none⟩ 1 1 [.int .i64 x] rfl rfl (cell_new2 (by simp)) (by intro u hu;simp at hu;subst hu;rfl) (by omega) ?_;intro w4 hown4 hgrow4))
       have hF4:=FreeAt.snoc (by omega) rfl hown4;have hL4:LeadsAt w w4 gl l.length _:=LeadsAt.grown (World.ownsRow.alloc (hLq.store x.toNat (Pure.ig L'' x.toNat-1)) _) hgrow4 (by omega);have hsz:=hbelq.size;have hbel4:Below w.heap.size w w4:=((hbelq.setCell hgl' _).alloc (by simp;omega) _).grown hgrow4 (by simp;omega) (fun k' h=>by simp at h;omega);have HL4:Hid ((q'++[x.toNat]).length=q'.length+1):=by show (q'++[x.toNat]).length=q'.length+1;simp
       clear hown4 hgrow4 hsz hcell hfz HF' hLq hFq hbelq;go_wp2
       go_roundw
       case rel=>exact⟨1,q'++[x.toNat],_,by omega,rfl,by rw [HL4.out],hbel4,hL4,hF4,HI'.out⟩
       case measure=>simp [intOf]
    | 1,_=>
     cases hbl:Pure.bel x' l.length
     ·go_wp2_with (go_at_call 133;refine (below_any _ _ _).mono ?_;rintro e w' ⟨rfl,rfl⟩)
      go_roundw
      case rel=>exact⟨2,q',L'',by omega,rfl,rfl,hbelq,hLq,hFq,Pure.inv_no1 HT.out hat HB.out HJ.out hbl⟩
      case measure=>simp [intOf]
     ·have hlen:=HJ.out.len
      have hab:=Pure.of_bel hbl;have hbd:=Pure.inv_bd HJ.out (v:=x'.toNat) (by omega);have hcell:=hLq.cell (v:=x'.toNat) (by omega);have hfz:=hLq.frozen x'.toNat;have hyes:=Pure.inv_yes1 HB.out HJ.out hbl;have HY:=hide hyes;clear hlen hyes;cases hz:(Pure.ig L'' x'.toNat-1 == 0)
      ·go_wp2_with (go_at_call 133;refine (below_any _ _ _).mono ?_;rintro e w' ⟨rfl,rfl⟩)
       go_roundw
       case rel=>exact⟨2,q',_,by omega,rfl,rfl,hbelq.setCell hgl' _,hLq.store _ _,hFq.other hLq hne _ _,HY.out.2 hz⟩
       case measure=>simp [intOf]
      ·have hI':=HY.out.1 hz
       have hqq:=hI'.len_le;simp only [List.length_append,List.length_singleton] at hqq;have HI':=hide hI';clear hI' HY;have HF':Hid (FreeAt w1.heap.size (wr.setCell ⟨gl,x'.toNat,none⟩ (.int .i64 (Pure.ig L'' x'.toNat-1))) gf l.length q'):=hFq.other hLq hne _ _
       go_wp2_with (first | (go_at_call 133;refine (below_any _ _ _).mono ?_;rintro e w' ⟨rfl,rfl⟩) | (at_builtin;refine wpList_append_fits _ rfl (.tmp 48) (.tmp 50) 31 rfl w1.heap.size 3 i0 1 Tryz.underlying31 hi hz1 gf q'.length l.length (intCells (Pure.nats q')) rfl (World.ownsRow.alloc HF'.out _) ⟨wr.heap.size,0,none⟩ 1 1 [.int .i64 x'] rfl rfl (cell_new2 (by simp)) (by intro u hu;simp at hu;subst hu;rfl) (by omega) ?_;intro w4 hown4 hgrow4))
       have hF4:=FreeAt.snoc (by omega) rfl hown4;have hL4:LeadsAt w w4 gl l.length _:=LeadsAt.grown (World.ownsRow.alloc (hLq.store x'.toNat (Pure.ig L'' x'.toNat-1)) _) hgrow4 (by omega);have hsz:=hbelq.size;have hbel4:Below w.heap.size w w4:=((hbelq.setCell hgl' _).alloc (by simp;omega) _).grown hgrow4 (by simp;omega) (fun k' h=>by simp at h;omega);have HL4:Hid ((q'++[x'.toNat]).length=q'.length+1):=by show (q'++[x'.toNat]).length=q'.length+1;simp
       clear hown4 hgrow4 hsz hcell hfz HF' hLq hFq hbelq;go_wp2
       go_roundw
       case rel=>exact⟨2,q'++[x'.toNat],_,by omega,rfl,by rw [HL4.out],hbel4,hL4,hF4,HI'.out⟩
       case measure=>simp [intOf]
    | 2,_=>
     clear f0 f1;go_wp2
     go_roundw
     case rel=>exact⟨q',tn+1,L'',(Pure.inv_end HJ.out HTL.out).2,rfl,by go_num,hbelq,hLq,hFq,(Pure.inv_end HJ.out HTL.out).1⟩
     case measure=>simp [intOf];omega
  ·have hout:=Pure.inv_out HT.out HI.out htn hlt
   have HO:=hide hout.1;have htl:=hout.2;clear hout;go_wp2;go_ret;exact retB (by simp only [decide_eq_true_eq];rw [←HO.out]) hbel
theorem Ints.form {w:World} {v:Value} {l:List Int} (h:Ints w v l):∃ao cap,v=.slice ao l.length cap∧l.length≤cap∧cap≤9223372036854775807:=by
 obtain⟨ao,cap,h1,h2,h3,_⟩:=h.read;exact⟨ao,cap,h1,h2,h3⟩
theorem Rules.form {w:World} {v:Value} {l:List Pure.Rule} (h:Rules w v l):∃ao cap,v=.slice ao l.length cap∧l.length≤cap∧cap≤9223372036854775807:=by
 obtain⟨ao,cap,h1,h2,h3,_⟩:=h.read;exact⟨ao,cap,h1,h2,h3⟩
theorem Code.form {w:World} {v:Value} {l:List Pure.Ins} (h:Code w v l):∃ao cap,v=.slice ao l.length cap∧l.length≤cap∧cap≤9223372036854775807:=by
 obtain⟨ao,cap,h1,h2,h3,_⟩:=h.read;exact⟨ao,cap,h1,h2,h3⟩
theorem bcell {W w1:World} (hb:Below W.heap.size W w1):(∀b o,b<W.heap.size→w1.cell? ⟨b,o,none⟩=W.cell? ⟨b,o,none⟩)∧(∀b o,b<W.heap.size→w1.frozen? ⟨b,o,none⟩=W.frozen? ⟨b,o,none⟩):=
 ⟨fun b _ h=>hb.cell (p:=⟨b,_,none⟩) h,fun b _ h=>hb.frozen (p:=⟨b,_,none⟩) h⟩
theorem right_any (ve vr vc:Value) (p:Pure.Prg) (w:World) (hE:Ints w ve p.ents) (hR:Rules w vr p.rules) (hC:Code w vc p.code) :
  Calls Tryz.prog 75 #[.agg #[ve,vr,vc]] w (RetB (Pure.RightP p) w):=by
 obtain⟨ae,ce,rfl,he1,he2⟩:=hE.form
 obtain⟨ar,cr,rfl,hr1,hr2⟩:=hR.form
 obtain⟨ac,cc,rfl,hc1,hc2⟩:=hC.form
 have HE:=hide hE
 have HR:=hide hR
 have HC:=hide hC
 clear hE hR hC
 go_enter Tryz.func75,Tryz.ntmps75
 go_wp2_with fail
 have b0:=(Below.refl w.heap.size w).alloc lr_ (.cells #[.slice ae p.ents.length ce,.slice ar p.rules.length cr,.slice ac p.code.length cc] 43)
 have HB0:=hide b0
 clear b0
 refine (entriesRight_any _ p.ents p.code.length _ (HE.out.below HB0.out) (by omega)).mono ?_
 rintro e w1 ⟨b1,rfl,hb1,hB1⟩
 have hbel1:=bel1 (Below.refl _ _) hB1
 have hc1':=(bcell hB1).1
 cases b1
 ·go_wp2
  go_ret;exact retB (Pure.false_iff_of (fun h=>Bool.noConfusion (hb1.2 h.1))) hbel1
 have hE1:=hb1.1 rfl
 have hel:=hE1.1
 have HE1:=hide hE1
 clear hE1 hb1
 go_wp2_with fail
 have hz1:w.heap.size<w1.heap.size:=by have:=hB1.size;simp at this;omega
 clear hB1
 refine (rulesRight_any _ p.rules p.ents.length _ (HR.out.below hbel1) (by omega) (by omega)).mono ?_
 rintro e w2 ⟨b2,rfl,hb2,hB2⟩
 have hbel2:=bel0 hbel1 hB2
 have hc2':=(bcell hB2).1
 cases b2
 ·go_wp2
  go_ret;exact retB (Pure.false_iff_of (fun h=>Bool.noConfusion (hb2.2 h.2.1))) hbel2
 have hR1:=hb2.1 rfl
 have hrl:=hR1.1
 have HR1:=hide hR1
 clear hR1 hb2
 go_wp2_with fail
 have hz2:w.heap.size<w2.heap.size:=by have:=hB2.size;omega
 clear hB2
 refine (codeRight_any _ p.code p.rules.length _ (HC.out.below hbel2) (by omega)).mono ?_
 rintro e w3 ⟨b3,rfl,hb3,hB3⟩
 have hbel3:=bel0 hbel2 hB3
 have hc3':=(bcell hB3).1
 cases b3
 ·go_wp2
  go_ret;exact retB (Pure.false_iff_of (fun h=>Bool.noConfusion (hb3.2 h.2.2.1))) hbel3
 have hC1:=hb3.1 rfl
 have hcl:=hC1.1
 have HC1:=hide hC1
 clear hC1 hb3
 go_wp2_with fail
 have hz3:w.heap.size<w3.heap.size:=by have:=hB3.size;omega
 clear hB3
 refine (hasLoop_any _ p.code _ (HC.out.below hbel3) HC1.out.tight (by omega)).mono ?_
 rintro e w4 ⟨b4,rfl,hb4,hB4⟩
 have hbel4:=bel0 hbel3 hB4
 go_wp2
 go_ret
 refine retB ?_ hbel4
 constructor
 ·intro h
  have h4:b4=false:=by simpa using h
  refine⟨HE1.out,HR1.out,HC1.out,?_⟩;apply Classical.byContradiction;intro hn;have:=hb4.2 hn;rw [h4] at this;cases this
 ·intro h
  cases b4
  ·rfl
  ·exact absurd h.2.2.2 (hb4.1 rfl)
end Go.Proofs.YtmccnmgaoppogaaGreat
