/-
 The walks: where a row of bytes ends. (code)
 The walks: the ways on. (code)
 The walks: the code under way. (code)
 The walks: an instruction more. (code)
 The walks: the code of a kind. (code)
 The walks: kinds become instructions. (code)
 The walks: kinds become instructions: the walk. (code)
 The walks: kinds in memory; the rules of the sets. (kinds)
-/
import Derived.Test.YtmccnmgaoppogaaGreatJA
namespace Go.Proofs.YtmccnmgaoppogaaGreat
set_option maxRecDepth 100000
set_option maxHeartbeats 8000000
open Go.RowKit
theorem rowEnd_any (l:List Nat) (low:Nat) (w:World) (hl:l.length=256) (hlow:low<256) :
  Calls Tryz.prog 145 #[.agg (natCells l).toArray,.int .i64 (low:Int)] w (RetVal (.int .i64 (Pure.rowEnd l low 256:Nat)) w):=by
 have W0:Hid (Blk (w.alloc (.cells (natCells l).toArray 140)) w.heap.size 140 (natCells l)):=heap_alloc_new _ _
 have B0:Hid (Below w.heap.size w (w.alloc (.cells (natCells l).toArray 140))):=bn_ _
 have HL:=hide hl
 clear hl
 go_enter Tryz.func145,Tryz.ntmps145
 go_wp2_with fail
 go_loopg [5] (256-low) (fun gk hv wx=>∃(h f:Nat),h<256∧gk=256-h∧hv=.int .i64 h∧Below w.heap.size w wx∧Blk wx w.heap.size 140 (natCells l)∧l.getD h 0=l.getD low 0∧256-h≤f∧Pure.rowEnd l h f=Pure.rowEnd l low 256)
 case atStart=>exact⟨low,256,hlow,rfl,rfl,B0.out,W0.out,rfl,by omega,rfl⟩
 case round=>
  clear B0 W0;obtain⟨h,f,h256,rfl,rfl,hb,hB,he,hf,hR⟩:=hrel;obtain⟨f',rfl⟩:∃f',f=f'+1:=⟨f-1,by omega⟩;have STEP:Hid ((if h+1<256∧l.getD (h+1) 0=l.getD h 0 then Pure.rowEnd l (h+1) f' else h)=Pure.rowEnd l low 256):=hR;have HB:=hide hb;have HBB:=hide hB;have HE:=hide he;have wh:=wr_ (h:Int) (by omega) (by omega);clear hR hb he;by_cases hh:h+1<256
  ·have d1:decide ((h:Int)+1<256)=true:=decide_eq_true (by omega)
   have d1':(h:Int)+1<256:=by omega
   have ih0:(0:Int)≤(h:Int)+1:=by omega
   have il0:=nz_ low;have il1:(low:Int)<256:=by omega
   obtain⟨p,hp⟩:∃p,l[h+1]?=some p:=⟨_,List.getElem?_eq_getElem (by rw [HL.out];exact hh)⟩;obtain⟨q,hq⟩:∃q,l[low]?=some q:=⟨_,List.getElem?_eq_getElem (by rw [HL.out];exact hlow)⟩;have x1:wr.cell? ⟨w.heap.size,h+1,none⟩=some (.int .i64 (p:Int)):=blk_cell hB (natCells_get hp);have x2:wr.cell? ⟨w.heap.size,low,none⟩=some (.int .i64 (q:Int)):=blk_cell hB (natCells_get hq)
   have P1:Hid (l.getD (h+1) 0=p∧l.getD h 0=q):=by
    refine⟨by rw [List.getD_eq_getElem?_getD,hp];rfl,?_⟩;rw [HE.out,List.getD_eq_getElem?_getD,hq];rfl
   have tn:((h:Int)+1).toNat=h+1:=by omega
   clear hB hp hq;by_cases e:p=q
   ·have NX:Hid (Pure.rowEnd l (h+1) f'=Pure.rowEnd l low 256):=by
     have:=STEP.out;rw [if_pos ⟨hh,by rw [P1.out.1,P1.out.2];exact e⟩] at this;exact this
    have E2:Hid (l.getD (h+1) 0=l.getD low 0):=by
     show _=_;rw [←HE.out,P1.out.1,P1.out.2];exact e
    subst e;clear STEP P1 HE
    go_wp2_with fail
    go_quiet (fail);have dn:=hide (below_drewN HB.out nq);have bn:Hid (Blk (wr.drewN nq) w.heap.size 140 (natCells l)):=HBB.out;go_wp2;go_roundg (256-(h+1))
    case measure=>omega
    case rel=>exact⟨h+1,f',hh,rfl,by go_num,dn.out,bn.out,E2.out,by omega,NX.out⟩
   ·have R:Hid (Pure.rowEnd l low 256=h):=by
     have:=STEP.out;rw [if_neg (fun a=>e (by rw [←P1.out.1,←P1.out.2];exact a.2))] at this;exact this.symm
    have e1:((p:Int) == (q:Int))=false:=by simp;omega
    have e2:¬(p:Int)=(q:Int):=by omega
    have e3:decide ((p:Int)=(q:Int))=false:=decide_eq_false e2;clear STEP P1 HE
    go_wp2_with fail
    go_quiet (fail);have dn:=hide (below_drewN HB.out nq);go_wp2;go_ret;exact⟨by rw [R.out];rfl,dn.out⟩
  ·have d1:decide ((h:Int)+1<256)=false:=decide_eq_false (by omega)
   have R:Hid (Pure.rowEnd l low 256=h):=by
    have:=STEP.out;rw [if_neg (fun a=>hh a.1)] at this;exact this.symm
   clear STEP HE hB
   go_wp2_with fail
   go_quiet (fail);have dn:=hide (below_drewN HB.out nq);go_wp2;go_ret;exact⟨by rw [R.out];rfl,dn.out⟩
theorem ins_info9:(Tryz.prog.info? 61).map (fun i=>(i.zero,i.size,i.bytes))=some (some (.agg #[.int .i64 0,.int .i64 0,.int .i64 0,.int .i64 0]),4,32):=by kernel_rfl
theorem wpList_append_ins {w:World} {ops:Array Oper} {rest:List Oper} {o:Oper} {a:Act} {Q:Exit→Act→World→Prop} (hgd:o.guard=none) (s x:Operand)
  (ho:o.op=.call { callee:=.builtin .append,args:=#[s,x],argTypes:=#[41,41] }) (base:Nat) (v:Value) (u:List Pure.Ins) (q:Pure.Ins) (gx:Nat) (hs:a.eval s=v) (hown:w.ownsRow base 61 4 v u.length (insCells u))
  (hx:a.eval x=.slice (some ⟨gx,0,none⟩) 1 1) (hb:Blk w gx 61 [.int .i64 q.op,.int .i64 q.a,.int .i64 q.b,.int .i64 q.to]) (hlen:u.length≤1000000) (hbase:base≤w.heap.size)
  (h:∀v' w',w'.ownsRow base 61 4 v' (u++[q]).length (insCells (u++[q]))→w.grownBy w' v.ownBlock→wpList Tryz.prog ops Q rest (a.put o.dst v') w'):wpList Tryz.prog ops Q (o::rest) a w:=by
 obtain⟨il,hil,hl0,hl1,hl2⟩:=info_parts ins_info9
 refine wpList_append_own _ hgd s x 41 ho base 61 il _ 4 32 Tryz.underlying41 hil hl0 hl1 hl2 rfl (by decide) v u.length (insCells u) hs hown ⟨gx,0,none⟩ 1 1 [.int .i64 q.op,.int .i64 q.a,.int .i64 q.b,.int .i64 q.to] hx rfl ?_ (fun z hz=>by simp at hz;rcases hz with rfl | rfl | rfl | rfl <;> rfl) (by unfold maxLen;omega) (by omega) hbase ?_
 ·intro j y hy
  have:=blk_cell hb hy;simpa [add_eq] using this
 ·intro v' w' h1 h2 _
  refine h v' w' ?_ h2;have e:insCells (u++[q])=insCells u++[.int .i64 q.op,.int .i64 q.a,.int .i64 q.b,.int .i64 q.to]:=by simp [insCells]
  rw [List.length_append,e];exact h1
def RetIs (l:List Pure.Ins) (w:World) (e:Ending) (w':World):Prop:=∃v,e=.returned v∧Below w.heap.size w w'∧w'.ownsRow w.heap.size 61 4 v l.length (insCells l)
namespace Pure
theorem rowEnd_bd (l:List Nat):∀(f low:Nat),low<256→low≤rowEnd l low f∧rowEnd l low f<256:=by
 intro f
 induction f with
 | zero=>intro low h;exact⟨lr_,h⟩
 | succ f ih=>
  intro low h;unfold rowEnd;split
  ·rename_i c
   have:=ih (low+1) c.1;omega
  ·exact⟨lr_,h⟩
end Pure
theorem waysOn_any (l:List Nat) (w:World) (hl:l.length=256) :
  Calls Tryz.prog 120 #[.agg (natCells l).toArray] w (RetIs (Pure.waysOn l) w):=by
 have W0:Hid (Blk ((w.alloc (.cells (natCells l).toArray 140)).alloc (.cells #[] 61)) w.heap.size 140 (natCells l)):=blk_alloc (heap_alloc_new _ _) _
 have B0:Hid (Below w.heap.size w ((w.alloc (.cells (natCells l).toArray 140)).alloc (.cells #[] 61))):=(bn_ _).alloc (by simp) _
 have O0:Hid (((w.alloc (.cells (natCells l).toArray 140)).alloc (.cells #[] 61)).ownsRow w.heap.size 61 4 (.slice (some ⟨w.heap.size+1,0,none⟩) 0 0) 0 (insCells [])):=by
  have h2:=heap_alloc_new (w.alloc (.cells (natCells l).toArray 140)) (.cells #[] 61);rw [World.size_alloc] at h2;exact⟨rfl,.inr ⟨w.heap.size+1,0,#[],rfl,by omega,h2,lr_,by unfold maxLen;omega,rfl,rfl⟩⟩
 have HL:=hide hl
 clear hl
 go_enter Tryz.func120,Tryz.ntmps120
 go_wp2_with fail
 go_loopg [3,4,5] 256 (fun gk sv lv _ wx=>∃(low f:Nat) (acc:List Pure.Ins),low≤256∧gk=256-low∧lv=.int .i64 low∧acc.length≤low∧257-low≤f∧Pure.waysGo l f low acc=Pure.waysOn l∧Below w.heap.size w wx∧Blk wx w.heap.size 140 (natCells l)∧wx.ownsRow w.heap.size 61 4 sv acc.length (insCells acc))
 case atStart=>exact⟨0,257,[],Nat.zero_le _,rfl,rfl,lr_,lr_,rfl,B0.out,W0.out,O0.out⟩
 case round=>
  clear B0 W0 O0;obtain⟨low,f,acc,ll,rfl,rfl,al,fl,hW,hb,hB,ho⟩:=hrel;obtain⟨f',rfl⟩:∃f',f=f'+1:=⟨f-1,by omega⟩;have STEP:Hid ((if low<256 then Pure.waysGo l f' (Pure.rowEnd l low 256+1) (if l.getD low 0=0 then acc else acc++[⟨3,low,(Pure.rowEnd l low 256:Nat),(l.getD low 0:Nat)⟩]) else acc)=Pure.waysOn l):=hW;obtain⟨av,cv,rfl,_,_⟩:=own_fm ho;have HB:=hide hb;have HBB:=hide hB;have HO:=hide ho;clear hW hb ho;by_cases hl2:low<256
  ·have d1:decide ((low:Int)<256)=true:=decide_eq_true (by omega)
   have il0:=nz_ low;have il1:(low:Int)<256:=by omega
   obtain⟨p,hp⟩:∃p,l[low]?=some p:=⟨_,List.getElem?_eq_getElem (by rw [HL.out];exact hl2)⟩;have BD:=Pure.rowEnd_bd l 256 low hl2
   have STEP2:Hid (Pure.waysGo l f' (Pure.rowEnd l low 256+1) (if p=0 then acc else acc++[⟨3,low,(Pure.rowEnd l low 256:Nat),(p:Nat)⟩])=Pure.waysOn l):=by
    have:=STEP.out;rw [if_pos hl2,show l.getD low 0=p by rw [List.getD_eq_getElem?_getD,hp];rfl] at this;exact this
   have NG:=hide (natCells_get hp);have RG:Hid (wr.rangeAt w.heap.size 0 (natCells l)):=blk_range hB;have LEN:(natCells l).length=256:=by rw [natCells_length];exact HL.out
   have CALL:=hide (fun W=>rowEnd_any l low W HL.out hl2);clear STEP hp hB;go_upto_region 5 with (first | (refine wpList_load_mid rfl 140 (.tmp 1) rfl w.heap.size 0 rfl _ _ RG.out Tryz.underlying140 rfl (by rw [LEN];kernel_rfl) ?_) | (go_at_call 145;refine (CALL.out _).mono ?_;rintro e w3 ⟨rfl,hb3⟩));have B3:=hide (HB.out.trans (hb3.mono HB.out.size));have K3:=hide (blk_below HBB.out hb3 (blk_lt HBB.out));have O3:=hide (own_below HO.out hb3 lr_);have x1:=blk_cell K3.out NG.out;clear hb3 HB HBB HO RG CALL NG;generalize hre:Pure.rowEnd l low 256=hi at *;have wh:=wr_ (hi:Int) (by omega) (by omega);clear hre;by_cases e:p=0
   ·subst e
    have STEP3:Hid (Pure.waysGo l f' (hi+1) acc=Pure.waysOn l):=by
     have:=STEP2.out;rw [if_pos rfl] at this;exact this
    clear STEP2;go_wp2;go_roundg (256-(hi+1))
    case measure=>omega
    case rel=>exact⟨hi+1,f',acc,by omega,rfl,by go_num,by omega,by omega,STEP3.out,B3.out,K3.out,O3.out⟩
   ·have STEP3:Hid (Pure.waysGo l f' (hi+1) (acc++[⟨3,low,(hi:Nat),(p:Nat)⟩])=Pure.waysOn l):=by
     have:=STEP2.out;rw [if_neg e] at this;exact this
    have e1:((p:Int) == 0)=false:=by simp;omega
    have e2:¬(p:Int)=0:=by omega
    have e3:((p:Int) != 0)=true:=by simp;omega
    have hbA:Below w3.heap.size w3 (w3.alloc (.cells #[.int .i64 3,.int .i64 (low:Int),.int .i64 (hi:Int),.int .i64 (p:Int)] 61)):=bn_ _;have BA:=hide (B3.out.trans (hbA.mono B3.out.size));have KA:=hide (blk_below K3.out hbA (blk_lt K3.out));have OA:=hide (own_below O3.out hbA lr_);have LN:acc.length≤1000000:=by omega
    have NB:Hid (Blk (w3.alloc (.cells #[.int .i64 3,.int .i64 (low:Int),.int .i64 (hi:Int),.int .i64 (p:Int)] 61)) w3.heap.size 61 [.int .i64 3,.int .i64 (low:Int),.int .i64 (hi:Int),.int .i64 (p:Int)]):=heap_alloc_new _ _;clear STEP2 hbA B3 O3 K3;go_upto_region 7 with (at_builtin;go_must (refine wpList_append_ins rfl (.tmp 16) (.tmp 23) rfl w.heap.size _ acc ⟨3,low,(hi:Nat),(p:Nat)⟩ w3.heap.size rfl OA.out rfl NB.out LN BA.out.size ?_);intro v8 w8 hown8 hgrow8);have K8:=hide (row_far OA.out KA.out (by decide) hgrow8);have B8:=hide (BA.out.grown hgrow8 BA.out.size (fun k' e=>(World.ownsRow.lt OA.out k' e).1));have O8:=hide hown8;clear hown8 hgrow8 OA KA BA NB x1;go_wp2;go_roundg (256-(hi+1))
    case measure=>omega
    case rel=>exact⟨hi+1,f',_,by omega,rfl,by go_num,by simp;omega,by omega,STEP3.out,B8.out,K8.out,O8.out⟩
  ·have d1:decide ((low:Int)<256)=false:=decide_eq_false (by omega)
   have R:Hid (Pure.waysOn l=acc):=by
    have:=STEP.out;rw [if_neg hl2] at this;exact this.symm
   clear STEP hB;go_wp2;go_ret;exact⟨_,rfl,HB.out,by rw [R.out];exact HO.out⟩
structure Lk (gw:Nat) (ob ob':Option Nat) (w w':World):Prop where
 os:w'.os=w.os
 tape:w'.tape=w.tape
 output:w'.output=w.output
 size:w.heap.size≤w'.heap.size
 block:∀k,k<w.heap.size→k≠gw→some k≠ob→w'.heap[k]?=w.heap[k]?
 row:ob'=ob∨∃g,ob'=some g∧w.heap.size≤g
section
variable {gw:Nat} {ob ob' ob'':Option Nat} {w w' w'':World}
theorem Lk.refl (gw:Nat) (ob:Option Nat) (w:World):Lk gw ob ob w w:=⟨rfl,rfl,rfl,lr_,fun _ _ _ _=>rfl,.inl rfl⟩
theorem Lk.trans (h:Lk gw ob ob' w w') (h':Lk gw ob' ob'' w' w''):Lk gw ob ob'' w w'':=by
 refine⟨h'.os.trans h.os,h'.tape.trans h.tape,h'.output.trans h.output,Nat.le_trans h.size h'.size,fun k hk h1 h2=>?_,?_⟩
 ·rw [h'.block k (Nat.lt_of_lt_of_le hk h.size) h1 (fun e=>?_)]
  ·exact h.block k hk h1 h2
  ·rcases h.row with r | ⟨g,r,hg⟩
   ·rw [r] at e;exact h2 e
   ·rw [r] at e
    have:=Option.some.inj e;omega
 ·rcases h'.row with r | ⟨g,r,hg⟩
  ·rcases h.row with r' | ⟨g,r',hg⟩
   ·exact .inl (r.trans r')
   ·exact .inr ⟨g,r.trans r',hg⟩
  ·exact .inr ⟨g,r,Nat.le_trans h.size hg⟩
theorem Lk.below (h:Below w.heap.size w w'):Lk gw ob ob w w':=⟨h.os,h.tape,h.output,h.size,fun k hk _ _=>h.block k hk,.inl rfl⟩
theorem Lk.blk {g t:Nat} {xs:List Value} (h:Lk gw ob ob' w w') (hb:Blk w g t xs) (h1:g≠gw) (h2:some g≠ob):Blk w' g t xs:=by
 unfold Blk
 rw [h.block g (blk_lt hb) h1 h2]
 exact hb
theorem Lk.rows {B t size n:Nat} {v:Value} {xs:List Value} (h:Lk gw ob ob' w w') (hn:w.ownsRow B t size v n xs) (h1:∀k,v.ownBlock=some k→k≠gw∧some k≠ob):w'.ownsRow B t size v n xs:=by
 refine⟨hn.1,?_⟩
 rcases hn.2 with h0 | ⟨g,cap,cur,h3,h4,h5,h6⟩
 ·exact .inl h0
 ·refine .inr ⟨g,cap,cur,h3,h4,?_,h6⟩
  have k:=h1 g (by rw [h3];rfl);rw [h.block g (Array.getElem?_eq_some_iff.1 h5).1 k.1 k.2];exact h5
end
structure Wc (B gw:Nat) (vc:Value) (code:List Pure.Ins) (W:World):Prop where
 b:Blk W gw 150 [vc]
 own:W.ownsRow B 61 4 vc code.length (insCells code)
 lo:B≤gw
theorem Wc.below {B gw:Nat} {vc:Value} {code:List Pure.Ins} {W W':World} (h:Wc B gw vc code W) (hb:Below W.heap.size W W'):Wc B gw vc code W':=⟨blk_below h.b hb (blk_lt h.b),own_below h.own hb lr_,h.lo⟩
def insL (x:Pure.Ins):List Value:=[.int .i64 x.op,.int .i64 x.a,.int .i64 x.b,.int .i64 x.to]
theorem insL_ones (x:Pure.Ins):∀u∈insL x,u.oneCell'=true:=by
 intro u hu
 simp [insL] at hu
 rcases hu with rfl | rfl | rfl | rfl <;> rfl
theorem insCells_one (code:List Pure.Ins) (x:Pure.Ins):insCells (code++[x])=insCells code++insL x:=by simp [insCells,insL]
theorem ins_fill (x:Pure.Ins):Instr.fill (fun i=>some (i*4,4)) ((Array.range (1*4)).map fun j=>((Value.agg #[.int .i64 0,.int .i64 0,.int .i64 0,.int .i64 0]).cells)[j % (Value.agg #[.int .i64 0,.int .i64 0,.int .i64 0,.int .i64 0]).cells.size]!) [(0,.agg (insL x).toArray)]=some (insL x).toArray:=by
 rw [range_map]
 have:=fill_one (fun i=>some (i*4,4)) (insL x) ((List.range (1*4)).map fun j=>((Value.agg #[.int .i64 0,.int .i64 0,.int .i64 0,.int .i64 0]).cells)[j % (Value.agg #[.int .i64 0,.int .i64 0,.int .i64 0,.int .i64 0]).cells.size]!) rfl lr_
 exact this
theorem ins_cells {W:World} {gx:Nat} {x:Pure.Ins} (h:Blk W gx 61 (insL x)):W.cell? ⟨gx,0,none⟩=some (.int .i64 x.op)∧W.cell? ⟨gx,1,none⟩=some (.int .i64 x.a)∧W.cell? ⟨gx,2,none⟩=some (.int .i64 x.b)∧W.cell? ⟨gx,3,none⟩=some (.int .i64 x.to):=
 ⟨blk_cell (j:=0) h rfl,blk_cell (j:=1) h rfl,blk_cell (j:=2) h rfl,blk_cell (j:=3) h rfl⟩
def RetLy (B gw:Nat) (vc:Value) (code:List Pure.Ins) (w:World) (w':World):Prop:=∃vc',Lk gw vc.ownBlock vc'.ownBlock w w'∧Wc B gw vc' code w'
theorem lay_fin {B gw:Nat} {vc:Value} {code:List Pure.Ins} {x:Pure.Ins} {w W w2:World} {g2 cap2 H:Nat} (h:Wc B gw vc code W) (lk:Lk gw vc.ownBlock vc.ownBlock w W) (hH:w.heap.size≤H) (ho:w2.ownsRow B 61 4 (.slice (some ⟨g2,0,none⟩) (code.length+1) cap2) (code.length+1) (insCells code++insL x)) (hg:W.grownBy w2 vc.ownBlock) (hat:vc.ownBlock=some g2∨g2=H) :
  RetLy B gw vc (code++[x]) w (w2.setCell ⟨gw,0,none⟩ (.slice (some ⟨g2,0,none⟩) (code.length+1) cap2)):=by
 have b2:=row_far h.own h.b (by decide) hg
 have g3:=Lib.grownBy_setCell w2 gw 0 (.slice (some ⟨g2,0,none⟩) (code.length+1) cap2)
 refine⟨.slice (some ⟨g2,0,none⟩) (code.length+1) cap2,⟨g3.os.trans (hg.os.trans lk.os),g3.tape.trans (hg.tape.trans lk.tape),g3.output.trans (hg.output.trans lk.output),Nat.le_trans lk.size (Nat.le_trans hg.size g3.size),fun k hk h1 h2=>?_,?_⟩,blk_set b2 0 _,?_,h.lo⟩
 ·rw [g3.block k (Nat.lt_of_lt_of_le hk (Nat.le_trans lk.size hg.size)) (fun e=>h1 (Option.some.inj e)),hg.block k (Nat.lt_of_lt_of_le hk lk.size) h2]
  exact lk.block k hk h1 h2
 ·rcases hat with e | e
  ·exact .inl e.symm
  ·exact .inr ⟨g2,rfl,by rw [e];exact hH⟩
 ·have:=row_apart ho b2 (by decide) g3
  rw [List.length_append,insCells_one];exact this
theorem lay_any (B gw:Nat) (vc:Value) (code:List Pure.Ins) (x:Pure.Ins) (w:World) (h:Wc B gw vc code w) (hl:code.length≤1000000) :
  Calls Tryz.prog 89 #[.pointer (some ⟨gw,0,none⟩),.agg #[.int .i64 x.op,.int .i64 x.a,.int .i64 x.b,.int .i64 x.to]] w (fun e w'=>e=.returned (.tuple #[])∧RetLy B gw vc (code++[x]) w w'):=by
 obtain⟨ip,hp,hp0,hp1,hp2⟩:=info_parts ins_info9
 have hb0:Below w.heap.size w (w.alloc (.cells #[.int .i64 x.op,.int .i64 x.a,.int .i64 x.b,.int .i64 x.to] 61)):=bn_ _
 have H0:=hide (h.below hb0)
 have LK0:Hid (Lk gw vc.ownBlock vc.ownBlock w (w.alloc (.cells #[.int .i64 x.op,.int .i64 x.a,.int .i64 x.b,.int .i64 x.to] 61))):=.below hb0
 have XB:Hid (Blk (w.alloc (.cells #[.int .i64 x.op,.int .i64 x.a,.int .i64 x.b,.int .i64 x.to] 61)) w.heap.size 61 (insL x)):=heap_alloc_new _ _
 have OWNX:Hid (some w.heap.size≠vc.ownBlock):=fun e=>by
  have:=(World.ownsRow.lt h.own _ e.symm).2;omega
 have NXW:Hid (w.heap.size≠gw):=by have:=blk_lt h.b;show _≠_;omega
 have GW:=blk_lt h.b
 have c0:=bc_ 0 H0.out.b rfl
 have OWNX2:Hid (∀W0:World,W0=w.alloc (.cells #[.int .i64 x.op,.int .i64 x.a,.int .i64 x.b,.int .i64 x.to] 61)→w.heap.size≤W0.heap.size+1):=by
  rintro W0 rfl;have:=hb0.size;omega
 clear hb0
 go_enter Tryz.func89,Tryz.ntmps89
 go_wp2_with fail
 have OWNX3:=hide (OWNX2.out _ rfl)
 clear OWNX2
 generalize w.alloc (.cells #[.int .i64 x.op,.int .i64 x.a,.int .i64 x.b,.int .i64 x.to] 61)=W0 at *
 have OWNX2:=hide OWNX3.out
 generalize hgx:w.heap.size=gx at *
 have hb2:=((Below.refl W0.heap.size W0).alloc lr_ (.cells (insL x).toArray 61)).drew
 have H2:=hide (H0.out.below hb2)
 have LK1:=hide (LK0.out.trans (.below hb2))
 have XB2:=hide (blk_below XB.out hb2 (blk_lt XB.out))
 have BL2:Hid (B≤(W0.alloc (.cells (insL x).toArray 61)).drew.heap.size):=by have:=H2.out.lo;have:=blk_lt H2.out.b;show _≤_;omega
 have S1:=ins_cells (W:=W0.drew) XB.out
 have S2:=ins_cells XB2.out
 have c2':=bc_ 0 H2.out.b rfl
 clear hb2
 refine wp_region_held_drew (S:=fun w'=>w'.cell? ⟨gx,0,none⟩=some (.int .i64 x.op)∧w'.cell? ⟨gx,1,none⟩=some (.int .i64 x.a)∧w'.cell? ⟨gx,2,none⟩=some (.int .i64 x.b)∧w'.cell? ⟨gx,3,none⟩=some (.int .i64 x.to)) (by kernel_rfl) S1 (fun hHeld=>?_)
 refine wpAnyH_take (i:=0) (v:=?vp0) rfl (by kernel_rfl) (by kernel_rfl) (by kernel_rfl) (fun _ _ _ h=>h) (Or.inl ⟨by rfl,?hyp0⟩) (by assumption) ?restp0
 case hyp0=>(intro w hSw;(try dsimp only at hSw);go_simp;try (with_reducible rfl))
 try simp only [List.getElem_toArray,List.getElem_cons_zero,Act.put,List.setIfInBounds_toArray,List.set_cons_zero,List.set_cons_succ]
 refine wpAnyH_take (i:=1) (v:=?vp1) rfl (by kernel_rfl) (by kernel_rfl) (by kernel_rfl) (fun _ _ _ h=>h) (Or.inl ⟨by rfl,?hyp1⟩) (by assumption) ?restp1
 case hyp1=>(intro w hSw;(try dsimp only at hSw);go_simp;try (with_reducible rfl))
 try simp only [tk_,Act.put]
 refine wpAnyH_take (i:=2) (v:=?vp2) rfl (by kernel_rfl) (by kernel_rfl) (by kernel_rfl) (fun _ _ _ h=>h) (Or.inl ⟨by rfl,?hyp2⟩) (by assumption) ?restp2
 case hyp2=>(intro w hSw;(try dsimp only at hSw);go_simp;try (with_reducible rfl))
 try simp only [tk_,Act.put]
 refine wpAnyH_take (i:=3) (v:=?vp3) rfl (by kernel_rfl) (by kernel_rfl) (by kernel_rfl) (fun _ _ _ h=>h) (Or.inl ⟨by rfl,?hyp3⟩) (by assumption) ?restp3
 case hyp3=>(intro w hSw;(try dsimp only at hSw);go_simp;try (with_reducible rfl))
 try simp only [tk_,Act.put]
 refine wpAnyH_take (i:=5) (v:=?vp5) rfl (by kernel_rfl) (by kernel_rfl) (by kernel_rfl) (fun _ _ _ h=>h) (Or.inl ⟨by rfl,?hyp5⟩) (by assumption) ?restp5
 case hyp5=>(intro w hSw;obtain⟨s0,s1,s2,s3⟩:=hSw;go_simp;try (with_reducible rfl))
 try simp only [tk_,Act.put]
 refine wpAnyH_ready (rs:=[4,6]) (by kernel_rfl) (by simp) ?_
 refine AllReadyH.cons rfl (fun K hK=>?_) (AllReadyH.cons rfl (fun K hK=>?_) AllReadyH.nil)
 ·go_simp
  refine hK.out _ _ hHeld (fun hHeld2=>?_);clear hK K
  try simp only [tk_,Act.put]
  refine wpAnyH_ready (rs:=[6]) (by kernel_rfl) (by simp) ?_
  refine AllReadyH.cons rfl (fun K hK=>?_) AllReadyH.nil;refine wp_buildSlice1 41 61 0 (.tmp 9) (.agg (insL x).toArray) rfl rfl (insL x).toArray ip _ 4 Tryz.underlying41 hp hp0 hp1 (by omega) (by omega) (ins_fill x) ?_
  refine hK.out _ _ S2 (fun hHeld3=>?_);clear hK K
  try simp only [tk_,Act.put]
  refine wpAnyH_ready (rs:=[7]) (by kernel_rfl) (by simp) ?_
  refine AllReadyH.cons rfl (fun K hK=>?_) AllReadyH.nil;refine step_append_lies _ (by rfl) _ _ _ (by rfl) B 61 ip _ 4 32 Tryz.underlying41 hp hp0 hp1 hp2 rfl (by omega) vc code.length (insCells code) (by rfl) H2.out.own ⟨W0.heap.size,0,none⟩ 1 1 (insL x) (by rfl) rfl (World.news_of_block (cs:=(insL x).toArray) (t:=61) (fr:=(0,0)) (heap_alloc_new _ _)) (insL_ones x) (by omega) (by unfold maxLen;omega) (by omega) BL2.out (W0.heap.size+1) (by simp) ?_
  intro g2 cap2 w2 hown2 hgrow2 hat2 hlt2;have mb2:=row_far H2.out.own H2.out.b (by decide) hgrow2;have xb2:=blk_grown XB2.out hgrow2 OWNX.out;refine hK.out _ _ (ins_cells xb2) (fun hHeld4=>?_);have k5:=bc_ 0 mb2 rfl;have f5':=blk_frozen mb2 0;clear hK K
  try simp only [tk_,Act.put]
  refine wpAnyH_take (i:=8) (v:=?va8) rfl (by kernel_rfl) (by kernel_rfl) (by kernel_rfl) (fun _ _ _ h=>h) (Or.inl ⟨by rfl,?hya8⟩) (by assumption) ?resta8
  case hya8=>(intro w hSw;(try dsimp only at hSw);go_simp;try (with_reducible rfl))
  try simp only [tk_,Act.put]
  refine wpAnyH_take (i:=9) (v:=?va9) rfl (by kernel_rfl) (by kernel_rfl) (by kernel_rfl) (fun _ _ _ h=>h) (Or.inl ⟨by rfl,?hya9⟩) (by assumption) ?resta9
  case hya9=>(intro w hSw;(try dsimp only at hSw);go_simp;try (with_reducible rfl))
  try simp only [tk_,Act.put]
  refine wpAnyH_ready (rs:=[10]) (by kernel_rfl) (by simp) ?_
  refine AllReadyH.cons rfl (fun K hK=>?_) AllReadyH.nil
  go_simp
  have hg3:=Lib.grownBy_setCell w2 gw 0 (.slice (some ⟨g2,0,none⟩) (code.length+1) cap2);have xb3:=blk_grown xb2 hg3 (fun e=>NXW.out (Option.some.inj e));refine hK.out _ _ (ins_cells xb3) (fun hHeld5=>?_);clear hK K;refine wpAnyH_done (by kernel_rfl) ?_ _;have R3:=hide (lay_fin H2.out LK1.out (by rw [hgx];exact OWNX2.out) hown2 hgrow2 hat2);clear hHeld4 hHeld5 mb2 xb2 xb3 k5 f5' hown2 hgrow2 hat2 hlt2 hg3 H2 XB2;go_wp2
  go_end0
  exact⟨rfl,R3.out⟩
 ·refine wp_buildSlice1 41 61 0 (.tmp 9) (.agg (insL x).toArray) rfl rfl (insL x).toArray ip _ 4 Tryz.underlying41 hp hp0 hp1 (by omega) (by omega) (ins_fill x) ?_
  refine hK.out _ _ S2 (fun hHeld2=>?_);clear hK K
  try simp only [tk_,Act.put]
  refine wpAnyH_ready (rs:=[4]) (by kernel_rfl) (by simp) ?_
  refine AllReadyH.cons rfl (fun K hK=>?_) AllReadyH.nil
  go_simp
  refine hK.out _ _ S2 (fun hHeld3=>?_);clear hK K
  try simp only [tk_,Act.put]
  refine wpAnyH_ready (rs:=[7]) (by kernel_rfl) (by simp) ?_
  refine AllReadyH.cons rfl (fun K hK=>?_) AllReadyH.nil;refine step_append_lies _ (by rfl) _ _ _ (by rfl) B 61 ip _ 4 32 Tryz.underlying41 hp hp0 hp1 hp2 rfl (by omega) vc code.length (insCells code) (by rfl) H2.out.own ⟨W0.heap.size,0,none⟩ 1 1 (insL x) (by rfl) rfl (World.news_of_block (cs:=(insL x).toArray) (t:=61) (fr:=(0,0)) (heap_alloc_new _ _)) (insL_ones x) (by omega) (by unfold maxLen;omega) (by omega) BL2.out (W0.heap.size+1) (by simp) ?_
  intro g2 cap2 w2 hown2 hgrow2 hat2 hlt2;have mb2:=row_far H2.out.own H2.out.b (by decide) hgrow2;have xb2:=blk_grown XB2.out hgrow2 OWNX.out;refine hK.out _ _ (ins_cells xb2) (fun hHeld4=>?_);have k5:=bc_ 0 mb2 rfl;have f5':=blk_frozen mb2 0;clear hK K
  try simp only [tk_,Act.put]
  refine wpAnyH_take (i:=8) (v:=?vb8) rfl (by kernel_rfl) (by kernel_rfl) (by kernel_rfl) (fun _ _ _ h=>h) (Or.inl ⟨by rfl,?hyb8⟩) (by assumption) ?restb8
  case hyb8=>(intro w hSw;(try dsimp only at hSw);go_simp;try (with_reducible rfl))
  try simp only [tk_,Act.put]
  refine wpAnyH_take (i:=9) (v:=?vb9) rfl (by kernel_rfl) (by kernel_rfl) (by kernel_rfl) (fun _ _ _ h=>h) (Or.inl ⟨by rfl,?hyb9⟩) (by assumption) ?restb9
  case hyb9=>(intro w hSw;(try dsimp only at hSw);go_simp;try (with_reducible rfl))
  try simp only [tk_,Act.put]
  refine wpAnyH_ready (rs:=[10]) (by kernel_rfl) (by simp) ?_
  refine AllReadyH.cons rfl (fun K hK=>?_) AllReadyH.nil
  go_simp
  have hg3:=Lib.grownBy_setCell w2 gw 0 (.slice (some ⟨g2,0,none⟩) (code.length+1) cap2);have xb3:=blk_grown xb2 hg3 (fun e=>NXW.out (Option.some.inj e));refine hK.out _ _ (ins_cells xb3) (fun hHeld5=>?_);clear hK K;refine wpAnyH_done (by kernel_rfl) ?_ _;have R3:=hide (lay_fin H2.out LK1.out (by rw [hgx];exact OWNX2.out) hown2 hgrow2 hat2);clear hHeld4 hHeld5 mb2 xb2 xb3 k5 f5' hown2 hgrow2 hat2 hlt2 hg3 H2 XB2;go_wp2
  go_end0
  exact⟨rfl,R3.out⟩
def kdC (k:Pure.Kd):List Value:=.int .i64 k.rule::natCells k.longer
theorem Wc.ne {B gw g t:Nat} {vc:Value} {code:List Pure.Ins} {W:World} {xs:List Value} (h:Wc B gw vc code W) (hb:Blk W g t xs) (ht:t≠61):some g≠vc.ownBlock:=by
 intro e
 rcases h.own.2 with ⟨e1,_⟩ | ⟨g',cap,cur,e1,_,h4,_⟩
 ·rw [e1] at e;cases e
 ·rw [e1] at e
  cases e
  unfold Blk at hb;rw [hb] at h4;cases h4;exact ht rfl
theorem Wc.new {B gw:Nat} {vc:Value} {code:List Pure.Ins} {W:World} (h:Wc B gw vc code W) {k:Nat} (hk:W.heap.size≤k):some k≠vc.ownBlock:=fun e=>by
 have:=(World.ownsRow.lt h.own k e.symm).2
 omega
structure Ks (B gw gk:Nat) (k:Pure.Kd) (ob:Option Nat) (w:World) (vc:Value) (code:List Pure.Ins) (W:World):Prop where
 wc:Wc B gw vc code W
 lk:Lk gw ob vc.ownBlock w W
 bx:Blk W gk 148 (kdC k)
section
variable {B gw gk:Nat} {k:Pure.Kd} {ob:Option Nat} {w W W':World} {vc vc':Value} {code code':List Pure.Ins}
theorem Ks.below (h:Ks B gw gk k ob w vc code W) (hb:Below W.heap.size W W'):Ks B gw gk k ob w vc code W':=⟨h.wc.below hb,h.lk.trans (.below hb),blk_below h.bx hb (blk_lt h.bx)⟩
theorem Ks.on (h:Ks B gw gk k ob w vc code W) (hl:Lk gw vc.ownBlock vc'.ownBlock W W') (hw:Wc B gw vc' code' W'):Ks B gw gk k ob w vc' code' W':=
 ⟨hw,h.lk.trans hl,hl.blk h.bx (blk_ne2 h.bx h.wc.b (by decide)) (h.wc.ne h.bx (by decide))⟩
end
namespace Pure
theorem waysGo_len (l:List Nat):∀(f low:Nat) (acc:List Ins),acc.length≤low→low≤256→(waysGo l f low acc).length≤256:=by
 intro f
 induction f with
 | zero=>intro low acc h1 h2;exact Nat.le_trans h1 h2
 | succ f ih=>
  intro low acc h1 h2;unfold waysGo;split
  ·rename_i hl
   have:=rowEnd_bd l 256 low hl;refine ih _ _ ?_ (by omega);split
   ·omega
   ·simp;omega
  ·omega
theorem waysOn_len (l:List Nat):(waysOn l).length≤256:=waysGo_len l 257 0 [] lr_ (by omega)
end Pure
theorem kind_any (B gw:Nat) (vc:Value) (code:List Pure.Ins) (k:Pure.Kd) (w:World) (h:Wc B gw vc code w) (hl:code.length≤900000) (hk:k.longer.length=256) :
  Calls Tryz.prog 90 #[.pointer (some ⟨gw,0,none⟩),.agg (kdC k).toArray] w (fun e w'=>e=.returned (.tuple #[])∧RetLy B gw vc (code++Pure.kindIns k) w w'):=by
 have hb0:Below w.heap.size w (w.alloc (.cells (kdC k).toArray 148)):=bn_ _
 have K0:Hid (Ks B gw w.heap.size k vc.ownBlock w vc code (w.alloc (.cells (kdC k).toArray 148))):=⟨h.below hb0,.below hb0,heap_alloc_new _ _⟩
 have HK:=hide hk
 clear h hb0 hk
 go_enter Tryz.func90,Tryz.ntmps90
 go_upto_region 1 with (fail)
 generalize w.alloc (.cells (kdC k).toArray 148)=W0 at *
 generalize hgk:w.heap.size=gk at *
 have x0:W0.cell? ⟨gk,0,none⟩=some (.int .i64 k.rule):=blk_cell (j:=0) K0.out.bx rfl
 by_cases e:k.rule=-1
 ·rw [e] at x0
  go_upto_region 3 with (fail);clear x0
  have RG:Hid (W0.rangeAt gk 1 (natCells k.longer)):=fun j u hu=>by
   have:=blk_range K0.out.bx (1+j) u (by unfold kdC;rw [Nat.add_comm,List.getElem?_cons_succ];exact hu);rwa [Nat.zero_add] at this
  have LEN:(natCells k.longer).length=256:=by rw [natCells_length];exact HK.out
  have CALL:=hide (fun W=>waysOn_any k.longer W HK.out);go_upto_region 4 with (first | (refine wpList_load_mid rfl 140 (.tmp 15) rfl gk 1 rfl _ _ RG.out Tryz.underlying140 rfl (by rw [LEN];kernel_rfl) ?_) | (go_at_call 120;refine (CALL.out _).mono ?_;rintro e w3 ⟨vw,rfl,hb3,ow⟩));obtain⟨aw,cw,rfl,_,_⟩:=own_fm ow;have K3:=hide (K0.out.below hb3);have OW:=hide ow
  have NEW:Hid (∀b,(Value.slice aw (Pure.waysOn k.longer).length cw).ownBlock=some b→b≠gw∧some b≠vc.ownBlock):=fun b e=>by
   have h1:=(World.ownsRow.lt ow b e).1;exact⟨by have:=blk_lt K0.out.wc.b;omega,K0.out.wc.new h1⟩
  clear hb3 ow RG CALL K0;have WL:=Pure.waysOn_len k.longer;generalize hws:Pure.waysOn k.longer=ws at *;have HWS:=hide hws;clear hws;by_cases hz:ws.length=0
  ·have FC:Hid (code++Pure.kindIns k=(code++ws)++[⟨5,0,0,0⟩]):=by
    show _=_;unfold Pure.kindIns;rw [HWS.out,if_pos hz,if_pos e];simp
   have dz:=df_ (0:Int) (ws.length:Int) (by omega);have hz2:¬0<ws.length:=by omega
   have LB:=blk_lt K3.out.wc.b;go_upto_region 7 with (fail)
   go_loopg [6,26] ws.length (fun gm _ iv wx=>∃(i:Nat) (vX:Value),i≤ws.length∧gm=ws.length-i∧iv=.int .i64 i∧Ks B gw gk k vc.ownBlock w vX (code++ws.take i) wx∧wx.ownsRow _ 61 4 (.slice aw ws.length cw) ws.length (insCells ws)∧∀b,(Value.slice aw ws.length cw).ownBlock=some b→b≠gw∧some b≠vX.ownBlock)
   case atStart=>exact⟨0,vc,Nat.zero_le _,rfl,rfl,by rw [List.take_zero,List.append_nil];exact K3.out,OW.out,NEW.out⟩
   case round=>
    clear K3 OW NEW;obtain⟨i,vX,il,rfl,rfl,hK,ho,hne⟩:=hrel;have HKX:=hide hK;have HOX:=hide ho;have HNX:=hide hne;by_cases hi:i<ws.length
    ·exact absurd hi (by omega)
    ·have d1:=df_ (i:Int) (ws.length:Int) (by omega)
     have ei:i=ws.length:=by omega
     have TK:Hid (code++ws.take i=code++ws):=by show _=_;rw [ei,List.take_length]
     have CL:Hid ((code++ws).length≤1000000):=by
      show _≤_;simp only [List.length_append];omega
     rw [TK.out] at hK;have KX:=hide hK;clear hK ho hne HKX HOX HNX TK ei
     go_wp2_with fail
     refine (lay_any B gw vX _ ⟨5,0,0,0⟩ wr KX.out.wc CL.out).mono ?_
     rintro e' w6 ⟨rfl,vY,lk,wc⟩;have FIN:Hid (RetLy B gw vc (code++Pure.kindIns k) w w6):=⟨vY,KX.out.lk.trans lk,by rw [FC.out];exact wc⟩;clear lk wc KX;go_wp2
     go_end0
     exact⟨rfl,FIN.out⟩
  ·have FC:Hid (code++Pure.kindIns k=((code++[(⟨2,0,0,0⟩:Pure.Ins)])++ws)++[⟨5,0,0,0⟩]):=by
    show _=_;unfold Pure.kindIns;rw [HWS.out,if_neg hz,if_pos e];simp
   have dz:=dl_ (0:Int) (ws.length:Int) (by omega);have hz2:0<ws.length:=by omega
   go_wp2_with fail
   refine (lay_any B gw vc _ ⟨2,0,0,0⟩ w3 K3.out.wc (by (try simp only [List.length_append,List.length_cons,List.length_nil]);omega)).mono ?_
   rintro e' w4 ⟨rfl,vc4,lk,wc⟩;have K4:=hide (K3.out.on lk wc);have OW4:=hide (lk.rows OW.out NEW.out)
   have NEW4:Hid (∀b,(Value.slice aw ws.length cw).ownBlock=some b→b≠gw∧some b≠vc4.ownBlock):=fun b eb=>by
    refine⟨(NEW.out b eb).1,?_⟩;rcases lk.row with r | ⟨g,r,hg⟩
    ·rw [r];exact (NEW.out b eb).2
    ·rw [r]
     intro e2;have:=Option.some.inj e2;have:=(World.ownsRow.lt OW.out b eb).2;omega
   clear lk wc K3 OW NEW;have OW:=hide OW4.out;have NEW:=hide NEW4.out;clear OW4 NEW4;have LB:=blk_lt K4.out.wc.b;go_upto_region 7 with (fail)
   go_loopg [6,26] ws.length (fun gm _ iv wx=>∃(i:Nat) (vX:Value),i≤ws.length∧gm=ws.length-i∧iv=.int .i64 i∧Ks B gw gk k vc.ownBlock w vX ((code++[(⟨2,0,0,0⟩:Pure.Ins)])++ws.take i) wx∧wx.ownsRow _ 61 4 (.slice aw ws.length cw) ws.length (insCells ws)∧∀b,(Value.slice aw ws.length cw).ownBlock=some b→b≠gw∧some b≠vX.ownBlock)
   case atStart=>exact⟨0,vc4,Nat.zero_le _,rfl,rfl,by rw [List.take_zero,List.append_nil];exact K4.out,OW.out,NEW.out⟩
   case round=>
    clear K4 OW NEW;obtain⟨i,vX,il,rfl,rfl,hK,ho,hne⟩:=hrel;have HKX:=hide hK;have HOX:=hide ho;have HNX:=hide hne;by_cases hi:i<ws.length
    ·have d1:=dl_ (i:Int) (ws.length:Int) (by omega)
     have wi:=wr_ (i:Int) (by omega) (by omega);have ii0:=nz_ i;have ii1:(i:Int)<(ws.length:Int):=by omega
     obtain⟨y,hy⟩:=gx_ ws i hi;obtain⟨gv,cv,ev,_,_⟩:=own_some ho (by omega);cases ev;have gy:ws.getD i Pure.i0=y:=by rw [List.getD_eq_getElem?_getD,hy];rfl
     have cy:=insCells_get ws i hi;rw [gy] at cy;have y0:wr.cell? ⟨gv,i*4,none⟩=some (.int .i64 y.op):=by have:=own_cell ho cy.1;rwa [Nat.mul_comm] at this
     have y1:wr.cell? ⟨gv,i*4+1,none⟩=some (.int .i64 y.a):=by have:=own_cell ho cy.2.1;rwa [Nat.mul_comm] at this
     have y2:wr.cell? ⟨gv,i*4+2,none⟩=some (.int .i64 y.b):=by have:=own_cell ho cy.2.2.1;rwa [Nat.mul_comm] at this
     have y3:wr.cell? ⟨gv,i*4+3,none⟩=some (.int .i64 y.to):=by have:=own_cell ho cy.2.2.2;rwa [Nat.mul_comm] at this
     have hbA:Below wr.heap.size wr (wr.alloc (.cells #[.int .i64 y.op,.int .i64 y.a,.int .i64 y.b,.int .i64 y.to] 61)):=bn_ _;have KA:=hide (hK.below hbA);have OA:=hide (own_below ho hbA lr_);have YB:Hid (Blk (wr.alloc (.cells #[.int .i64 y.op,.int .i64 y.a,.int .i64 y.b,.int .i64 y.to] 61)) wr.heap.size 61 (insL y)):=heap_alloc_new _ _
     have TK:Hid ((code++[(⟨2,0,0,0⟩:Pure.Ins)])++ws.take (i+1)=((code++[(⟨2,0,0,0⟩:Pure.Ins)])++ws.take i)++[y]):=by
      show _=_;rw [List.take_add_one,hy];simp [List.append_assoc]
     have CL:Hid (((code++[(⟨2,0,0,0⟩:Pure.Ins)])++ws.take i).length≤1000000):=by
      show _≤_;simp only [List.length_append,List.length_take,List.length_cons,List.length_nil];omega
     clear hK ho hne cy gy hy hbA HKX HOX;go_upto_region 9 with (fail);generalize wr.alloc (.cells #[.int .i64 y.op,.int .i64 y.a,.int .i64 y.b,.int .i64 y.to] 61)=W5 at *;generalize wr.heap.size=gy at *;clear y0 y1 y2 y3;obtain⟨z0,z1,z2,z3⟩:=ins_cells YB.out
     go_wp2_with fail
     refine (lay_any B gw vX _ y W5 KA.out.wc CL.out).mono ?_
     rintro e' w6 ⟨rfl,vY,lk,wc⟩;have K6:=hide (KA.out.on lk wc);have O6:=hide (lk.rows OA.out HNX.out)
     have N6:Hid (∀b,(Value.slice (some ⟨gv,0,none⟩) ws.length cw).ownBlock=some b→b≠gw∧some b≠vY.ownBlock):=fun b eb=>by
      refine⟨(HNX.out b eb).1,?_⟩;rcases lk.row with r | ⟨g,r,hg⟩
      ·rw [r];exact (HNX.out b eb).2
      ·rw [r]
       intro e2;have:=Option.some.inj e2;have:=(World.ownsRow.lt OA.out b eb).2;omega
     clear lk wc KA OA z0 z1 z2 z3 YB HNX CL;go_wp2;go_roundg (ws.length-(i+1))
     case measure=>omega
     case rel=>exact⟨i+1,vY,by omega,rfl,by go_num,by rw [TK.out];exact K6.out,O6.out,N6.out⟩
    ·have d1:=df_ (i:Int) (ws.length:Int) (by omega)
     have ei:i=ws.length:=by omega
     have TK:Hid ((code++[(⟨2,0,0,0⟩:Pure.Ins)])++ws.take i=(code++[(⟨2,0,0,0⟩:Pure.Ins)])++ws):=by show _=_;rw [ei,List.take_length]
     have CL:Hid (((code++[(⟨2,0,0,0⟩:Pure.Ins)])++ws).length≤1000000):=by
      show _≤_;simp only [List.length_append,List.length_cons,List.length_nil];omega
     rw [TK.out] at hK;have KX:=hide hK;clear hK ho hne HKX HOX HNX TK ei
     go_wp2_with fail
     refine (lay_any B gw vX _ ⟨5,0,0,0⟩ wr KX.out.wc CL.out).mono ?_
     rintro e' w6 ⟨rfl,vY,lk,wc⟩;have FIN:Hid (RetLy B gw vc (code++Pure.kindIns k) w w6):=⟨vY,KX.out.lk.trans lk,by rw [FC.out];exact wc⟩;clear lk wc KX;go_wp2
     go_end0
     exact⟨rfl,FIN.out⟩
 ·have e1:(k.rule == -1)=false:=by simp [e]
  have e2:(k.rule != -1)=true:=by simp [e]
  have e3:decide (k.rule=-1)=false:=decide_eq_false e
  go_wp2_with fail
  refine (lay_any B gw vc code ⟨1,k.rule,0,0⟩ W0 K0.out.wc (by omega)).mono ?_
  rintro e' w2 ⟨rfl,vc1,lk,wc⟩;have K2:=hide (K0.out.on lk wc);clear lk wc x0 K0;go_upto_region 3 with (fail)
  have RG:Hid (w2.rangeAt gk 1 (natCells k.longer)):=fun j u hu=>by
   have:=blk_range K2.out.bx (1+j) u (by unfold kdC;rw [Nat.add_comm,List.getElem?_cons_succ];exact hu);rwa [Nat.zero_add] at this
  have LEN:(natCells k.longer).length=256:=by rw [natCells_length];exact HK.out
  have CALL:=hide (fun W=>waysOn_any k.longer W HK.out);go_upto_region 4 with (first | (refine wpList_load_mid rfl 140 (.tmp 15) rfl gk 1 rfl _ _ RG.out Tryz.underlying140 rfl (by rw [LEN];kernel_rfl) ?_) | (go_at_call 120;refine (CALL.out _).mono ?_;rintro e w3 ⟨vw,rfl,hb3,ow⟩));obtain⟨aw,cw,rfl,_,_⟩:=own_fm ow;have K3:=hide (K2.out.below hb3);have OW:=hide ow
  have NEW:Hid (∀b,(Value.slice aw (Pure.waysOn k.longer).length cw).ownBlock=some b→b≠gw∧some b≠vc1.ownBlock):=fun b e=>by
   have h1:=(World.ownsRow.lt ow b e).1;exact⟨by have:=blk_lt K2.out.wc.b;omega,K2.out.wc.new h1⟩
  clear hb3 ow RG CALL K2;have WL:=Pure.waysOn_len k.longer;generalize hws:Pure.waysOn k.longer=ws at *;have HWS:=hide hws;clear hws;by_cases hz:ws.length=0
  ·have FC:Hid (code++Pure.kindIns k=((code++[(⟨1,k.rule,0,0⟩:Pure.Ins)])++ws)++[⟨5,0,0,0⟩]):=by
    show _=_;unfold Pure.kindIns;rw [HWS.out,if_pos hz,if_neg e];simp
   have dz:=df_ (0:Int) (ws.length:Int) (by omega);have hz2:¬0<ws.length:=by omega
   have LB:=blk_lt K3.out.wc.b;go_upto_region 7 with (fail)
   go_loopg [6,26] ws.length (fun gm _ iv wx=>∃(i:Nat) (vX:Value),i≤ws.length∧gm=ws.length-i∧iv=.int .i64 i∧Ks B gw gk k vc.ownBlock w vX ((code++[(⟨1,k.rule,0,0⟩:Pure.Ins)])++ws.take i) wx∧wx.ownsRow _ 61 4 (.slice aw ws.length cw) ws.length (insCells ws)∧∀b,(Value.slice aw ws.length cw).ownBlock=some b→b≠gw∧some b≠vX.ownBlock)
   case atStart=>exact⟨0,vc1,Nat.zero_le _,rfl,rfl,by rw [List.take_zero,List.append_nil];exact K3.out,OW.out,NEW.out⟩
   case round=>
    clear K3 OW NEW;obtain⟨i,vX,il,rfl,rfl,hK,ho,hne⟩:=hrel;have HKX:=hide hK;have HOX:=hide ho;have HNX:=hide hne;by_cases hi:i<ws.length
    ·exact absurd hi (by omega)
    ·have d1:=df_ (i:Int) (ws.length:Int) (by omega)
     have ei:i=ws.length:=by omega
     have TK:Hid ((code++[(⟨1,k.rule,0,0⟩:Pure.Ins)])++ws.take i=(code++[(⟨1,k.rule,0,0⟩:Pure.Ins)])++ws):=by show _=_;rw [ei,List.take_length]
     have CL:Hid (((code++[(⟨1,k.rule,0,0⟩:Pure.Ins)])++ws).length≤1000000):=by
      show _≤_;simp only [List.length_append,List.length_cons,List.length_nil];omega
     rw [TK.out] at hK;have KX:=hide hK;clear hK ho hne HKX HOX HNX TK ei
     go_wp2_with fail
     refine (lay_any B gw vX _ ⟨5,0,0,0⟩ wr KX.out.wc CL.out).mono ?_
     rintro e' w6 ⟨rfl,vY,lk,wc⟩;have FIN:Hid (RetLy B gw vc (code++Pure.kindIns k) w w6):=⟨vY,KX.out.lk.trans lk,by rw [FC.out];exact wc⟩;clear lk wc KX;go_wp2
     go_end0
     exact⟨rfl,FIN.out⟩
  ·have FC:Hid (code++Pure.kindIns k=(((code++[(⟨1,k.rule,0,0⟩:Pure.Ins)])++[(⟨2,0,0,0⟩:Pure.Ins)])++ws)++[⟨5,0,0,0⟩]):=by
    show _=_;unfold Pure.kindIns;rw [HWS.out,if_neg hz,if_neg e];simp
   have dz:=dl_ (0:Int) (ws.length:Int) (by omega);have hz2:0<ws.length:=by omega
   go_wp2_with fail
   refine (lay_any B gw vc1 _ ⟨2,0,0,0⟩ w3 K3.out.wc (by (try simp only [List.length_append,List.length_cons,List.length_nil]);omega)).mono ?_
   rintro e' w4 ⟨rfl,vc4,lk,wc⟩;have K4:=hide (K3.out.on lk wc);have OW4:=hide (lk.rows OW.out NEW.out)
   have NEW4:Hid (∀b,(Value.slice aw ws.length cw).ownBlock=some b→b≠gw∧some b≠vc4.ownBlock):=fun b eb=>by
    refine⟨(NEW.out b eb).1,?_⟩;rcases lk.row with r | ⟨g,r,hg⟩
    ·rw [r];exact (NEW.out b eb).2
    ·rw [r]
     intro e2;have:=Option.some.inj e2;have:=(World.ownsRow.lt OW.out b eb).2;omega
   clear lk wc K3 OW NEW;have OW:=hide OW4.out;have NEW:=hide NEW4.out;clear OW4 NEW4;have LB:=blk_lt K4.out.wc.b;go_upto_region 7 with (fail)
   go_loopg [6,26] ws.length (fun gm _ iv wx=>∃(i:Nat) (vX:Value),i≤ws.length∧gm=ws.length-i∧iv=.int .i64 i∧Ks B gw gk k vc.ownBlock w vX (((code++[(⟨1,k.rule,0,0⟩:Pure.Ins)])++[(⟨2,0,0,0⟩:Pure.Ins)])++ws.take i) wx∧wx.ownsRow _ 61 4 (.slice aw ws.length cw) ws.length (insCells ws)∧∀b,(Value.slice aw ws.length cw).ownBlock=some b→b≠gw∧some b≠vX.ownBlock)
   case atStart=>exact⟨0,vc4,Nat.zero_le _,rfl,rfl,by rw [List.take_zero,List.append_nil];exact K4.out,OW.out,NEW.out⟩
   case round=>
    clear K4 OW NEW;obtain⟨i,vX,il,rfl,rfl,hK,ho,hne⟩:=hrel;have HKX:=hide hK;have HOX:=hide ho;have HNX:=hide hne;by_cases hi:i<ws.length
    ·have d1:=dl_ (i:Int) (ws.length:Int) (by omega)
     have wi:=wr_ (i:Int) (by omega) (by omega);have ii0:=nz_ i;have ii1:(i:Int)<(ws.length:Int):=by omega
     obtain⟨y,hy⟩:=gx_ ws i hi;obtain⟨gv,cv,ev,_,_⟩:=own_some ho (by omega);cases ev;have gy:ws.getD i Pure.i0=y:=by rw [List.getD_eq_getElem?_getD,hy];rfl
     have cy:=insCells_get ws i hi;rw [gy] at cy;have y0:wr.cell? ⟨gv,i*4,none⟩=some (.int .i64 y.op):=by have:=own_cell ho cy.1;rwa [Nat.mul_comm] at this
     have y1:wr.cell? ⟨gv,i*4+1,none⟩=some (.int .i64 y.a):=by have:=own_cell ho cy.2.1;rwa [Nat.mul_comm] at this
     have y2:wr.cell? ⟨gv,i*4+2,none⟩=some (.int .i64 y.b):=by have:=own_cell ho cy.2.2.1;rwa [Nat.mul_comm] at this
     have y3:wr.cell? ⟨gv,i*4+3,none⟩=some (.int .i64 y.to):=by have:=own_cell ho cy.2.2.2;rwa [Nat.mul_comm] at this
     have hbA:Below wr.heap.size wr (wr.alloc (.cells #[.int .i64 y.op,.int .i64 y.a,.int .i64 y.b,.int .i64 y.to] 61)):=bn_ _;have KA:=hide (hK.below hbA);have OA:=hide (own_below ho hbA lr_);have YB:Hid (Blk (wr.alloc (.cells #[.int .i64 y.op,.int .i64 y.a,.int .i64 y.b,.int .i64 y.to] 61)) wr.heap.size 61 (insL y)):=heap_alloc_new _ _
     have TK:Hid (((code++[(⟨1,k.rule,0,0⟩:Pure.Ins)])++[(⟨2,0,0,0⟩:Pure.Ins)])++ws.take (i+1)=(((code++[(⟨1,k.rule,0,0⟩:Pure.Ins)])++[(⟨2,0,0,0⟩:Pure.Ins)])++ws.take i)++[y]):=by
      show _=_;rw [List.take_add_one,hy];simp [List.append_assoc]
     have CL:Hid ((((code++[(⟨1,k.rule,0,0⟩:Pure.Ins)])++[(⟨2,0,0,0⟩:Pure.Ins)])++ws.take i).length≤1000000):=by
      show _≤_;simp only [List.length_append,List.length_take,List.length_cons,List.length_nil];omega
     clear hK ho hne cy gy hy hbA HKX HOX;go_upto_region 9 with (fail);generalize wr.alloc (.cells #[.int .i64 y.op,.int .i64 y.a,.int .i64 y.b,.int .i64 y.to] 61)=W5 at *;generalize wr.heap.size=gy at *;clear y0 y1 y2 y3;obtain⟨z0,z1,z2,z3⟩:=ins_cells YB.out
     go_wp2_with fail
     refine (lay_any B gw vX _ y W5 KA.out.wc CL.out).mono ?_
     rintro e' w6 ⟨rfl,vY,lk,wc⟩;have K6:=hide (KA.out.on lk wc);have O6:=hide (lk.rows OA.out HNX.out)
     have N6:Hid (∀b,(Value.slice (some ⟨gv,0,none⟩) ws.length cw).ownBlock=some b→b≠gw∧some b≠vY.ownBlock):=fun b eb=>by
      refine⟨(HNX.out b eb).1,?_⟩;rcases lk.row with r | ⟨g,r,hg⟩
      ·rw [r];exact (HNX.out b eb).2
      ·rw [r]
       intro e2;have:=Option.some.inj e2;have:=(World.ownsRow.lt OA.out b eb).2;omega
     clear lk wc KA OA z0 z1 z2 z3 YB HNX CL;go_wp2;go_roundg (ws.length-(i+1))
     case measure=>omega
     case rel=>exact⟨i+1,vY,by omega,rfl,by go_num,by rw [TK.out];exact K6.out,O6.out,N6.out⟩
    ·have d1:=df_ (i:Int) (ws.length:Int) (by omega)
     have ei:i=ws.length:=by omega
     have TK:Hid (((code++[(⟨1,k.rule,0,0⟩:Pure.Ins)])++[(⟨2,0,0,0⟩:Pure.Ins)])++ws.take i=((code++[(⟨1,k.rule,0,0⟩:Pure.Ins)])++[(⟨2,0,0,0⟩:Pure.Ins)])++ws):=by show _=_;rw [ei,List.take_length]
     have CL:Hid ((((code++[(⟨1,k.rule,0,0⟩:Pure.Ins)])++[(⟨2,0,0,0⟩:Pure.Ins)])++ws).length≤1000000):=by
      show _≤_;simp only [List.length_append,List.length_cons,List.length_nil];omega
     rw [TK.out] at hK;have KX:=hide hK;clear hK ho hne HKX HOX HNX TK ei
     go_wp2_with fail
     refine (lay_any B gw vX _ ⟨5,0,0,0⟩ wr KX.out.wc CL.out).mono ?_
     rintro e' w6 ⟨rfl,vY,lk,wc⟩;have FIN:Hid (RetLy B gw vc (code++Pure.kindIns k) w w6):=⟨vY,KX.out.lk.trans lk,by rw [FC.out];exact wc⟩;clear lk wc KX;go_wp2
     go_end0
     exact⟨rfl,FIN.out⟩
namespace Pure
def linkUp (starts:List Nat) (b e:Nat) (code:List Ins):List Ins:=code.mapIdx (fun i x=>if b≤i∧i<e then linkI starts x else x)
theorem linkUp_len (starts:List Nat) (b e:Nat) (code:List Ins):(linkUp starts b e code).length=code.length:=by simp [linkUp]
theorem linkUp_get (starts:List Nat) (b e:Nat) (code:List Ins) (i:Nat):(linkUp starts b e code)[i]?=(code[i]?).map (fun x=>if b≤i∧i<e then linkI starts x else x):=by simp [linkUp]
theorem linkUp_none (starts:List Nat) (b:Nat) (code:List Ins):linkUp starts b b code=code:=by
 apply List.ext_getElem?
 intro i
 rw [linkUp_get]
 cases code[i]? with
 | none=>rfl
 | some x=>
  simp only [Option.map_some];rw [if_neg (by omega)]
theorem linkUp_next (starts:List Nat) {b e:Nat} (code:List Ins) {x:Ins} (hb:b≤e) (hx:code[e]?=some x):linkUp starts b (e+1) code=(linkUp starts b e code).set e (linkI starts x):=by
 have hl:=(List.getElem?_eq_some_iff.1 hx).1
 apply List.ext_getElem?
 intro i
 rw [linkUp_get,List.getElem?_set,linkUp_len]
 by_cases h:e=i
 ·subst h
  rw [if_pos rfl,if_pos hl,hx];simp [hb]
 ·rw [if_neg h,linkUp_get]
  cases code[i]? with
  | none=>rfl
  | some y=>
   simp only [Option.map_some];by_cases c:b≤i∧i<e
   ·rw [if_pos c,if_pos (by omega)]
   ·rw [if_neg c,if_neg (by omega)]
theorem linkUp_all (starts:List Nat) (b:Nat) (code:List Ins):linkUp starts b code.length code=code.take b++(code.drop b).map (linkI starts):=by
 apply List.ext_getElem?
 intro i
 rw [linkUp_get]
 by_cases c:i<b
 ·by_cases d:i<code.length
  ·rw [List.getElem?_append_left (by simp;omega),List.getElem?_take_of_lt c,List.getElem?_eq_getElem d]
   simp only [Option.map_some];rw [if_neg (by omega)]
  ·rw [List.getElem?_eq_none (by omega),List.getElem?_append_right (by simp;omega),List.getElem?_eq_none (by simp;omega)]
   rfl
 ·by_cases d:i<code.length
  ·rw [List.getElem?_append_right (by simp;omega),List.getElem?_map,List.getElem?_drop,List.length_take,Nat.min_eq_left (by omega),show b+(i-b)=i by omega,List.getElem?_eq_getElem d]
   simp only [Option.map_some];rw [if_pos (by omega)]
  ·rw [List.getElem?_eq_none (by omega),List.getElem?_append_right (by simp;omega),List.getElem?_eq_none (by simp;omega)]
   rfl
end Pure
theorem rows_blocks {w:World} {B B' t t1 t2 size size' n n' g gc cap:Nat} {v:Value} {xs ys zs:List Value} (h:w.ownsRow B t size v n xs) (hb:Blk w g t1 ys) (ho:w.ownsRow B' t2 size' (.slice (some ⟨gc,0,none⟩) n' cap) n' zs) (h1:t≠t1) (h2:t≠t2):∀k,v.ownBlock=some k→k≠g∧some k≠some gc:=by
 intro k ek
 rcases h.2 with ⟨e1,_⟩ | ⟨g',c',cur,e1,_,h4,_⟩
 ·rw [e1] at ek;cases ek
 ·rw [e1] at ek
  have e2:g'=k:=Option.some.inj ek;subst e2;refine⟨fun e=>?_,fun e=>?_⟩
  ·subst e
   unfold Blk at hb;rw [hb] at h4;cases h4;exact h1 rfl
  ·have e3:=Option.some.inj e
   subst e3;rcases ho.2 with ⟨e5,_⟩ | ⟨g6,c6,cur6,e5,_,h6,_⟩
   ·cases e5
   ·cases e5
    rw [h6] at h4;cases h4;exact h2 rfl
theorem own_frozenJ {w:World} {B t size n g cap:Nat} {xs:List Value} (h:w.ownsRow B t size (.slice (some ⟨g,0,none⟩) n cap) n xs) (j:Nat):w.frozen? ⟨g,j,none⟩=false:=by
 rcases h.2 with ⟨e5,_⟩ | ⟨g6,c6,cur6,e5,_,h6,_⟩
 ·cases e5
 ·cases e5
  have hb:Blk w g t cur6.toList:=by unfold Blk;rw [h6]
  exact blk_frozen hb j
theorem link_any (B gw bg:Nat) (vc vs:Value) (code:List Pure.Ins) (starts:List Nat) (w:World) (h:Wc B gw vc code w) (hs:Nats w vs starts) (hl:code.length≤1000000) (hb:bg≤code.length) (hpos:0<code.length) (hsl:starts.length≤1000) (hst:∀(i:Nat) (x:Pure.Ins),bg≤i→code[i]?=some x→x.op=3→∃t:Nat,x.to=(t:Int)∧t<starts.length) :
  Calls Tryz.prog 91 #[.pointer (some ⟨gw,0,none⟩),.int .i64 (bg:Int),vs] w (fun e w'=>e=.returned (.tuple #[])∧RetLy B gw vc (code.take bg++(code.drop bg).map (Pure.linkI starts)) w w'):=by
 obtain⟨gc,cc,evc,_,_⟩:=own_some h.own hpos
 subst evc
 obtain⟨av,cv,rfl,_,_,_⟩:=hs.form
 have H0:=hide h
 have HS:=hide hs
 have HST:=hide hst
 clear h hs hst
 go_enter Tryz.func91,Tryz.ntmps91
 go_wp2_with fail
 go_loopg [6] (code.length-bg) (fun gk iv wx=>∃(i:Nat),bg≤i∧i≤code.length∧gk=code.length-i∧iv=.int .i64 i∧Wc B gw (.slice (some ⟨gc,0,none⟩) code.length cc) (Pure.linkUp starts bg i code) wx∧Lk gw (some gc) (some gc) w wx)
 case atStart=>exact⟨bg,lr_,hb,rfl,rfl,by rw [Pure.linkUp_none];exact H0.out,Lk.refl _ _ _⟩
 case round=>
  obtain⟨i,i1,i2,rfl,rfl,hW,hL⟩:=hrel;have YL:=Pure.linkUp_len starts bg i code;have c0:=bc_ 0 hW.b rfl;by_cases hi:i<code.length
  ·have d1:=dl_ (i:Int) (code.length:Int) (by omega)
   have wi:=wr_ (i:Int) (by omega) (by omega);have ii0:=nz_ i;have ii1:(i:Int)<(code.length:Int):=by omega
   obtain⟨x,hx⟩:=gx_ code i hi
   have gx:(Pure.linkUp starts bg i code)[i]?=some x:=by
    rw [Pure.linkUp_get,hx];simp
   have NX:=hide (Pure.linkUp_next starts code i1 hx);have cy:=insCells_get (Pure.linkUp starts bg i code) i (by omega);rw [List.getD_eq_getElem?_getD,gx] at cy;simp only [Option.getD_some] at cy;have own2:=hW.own;rw [YL] at own2;have y0:wr.cell? ⟨gc,i*4,none⟩=some (.int .i64 x.op):=by have:=own_cell own2 cy.1;rwa [Nat.mul_comm] at this
   have y3:wr.cell? ⟨gc,i*4+3,none⟩=some (.int .i64 x.to):=by have:=own_cell own2 cy.2.2.2;rwa [Nat.mul_comm] at this
   have HW:=hide hW;have HL:=hide hL;have GX:=hide gx;have HX:=hide hx;have OWN2:=hide own2;clear hW hL cy gx hx own2;by_cases e:x.op=3
   ·obtain⟨t,ht,tl⟩:=HST.out i x i1 HX.out e
    rw [e] at y0;rw [ht] at y3;have NE:=rows_blocks HS.out H0.out.b H0.out.own (by decide) (by decide);have SW:=HL.out.rows HS.out (fun k ek=>NE k ek);obtain⟨gs,es,_,sc⟩:=Nats.some (l:=starts) SW (by omega);subst es;obtain⟨z,hz⟩:=gx_ starts t tl;have sz:=sc t z hz;have n1:=NE gs rfl;have it0:=nz_ t;have it1:(t:Int)<(starts.length:Int):=by omega
    have fz:wr.frozen? ⟨gc,i*4+3,none⟩=false:=own_frozenJ OWN2.out _;have gn:gw≠gc:=fun e'=>HW.out.ne HW.out.b (by decide) (by rw [e'];rfl)
    have S1:Hid (wr.drew.cell? ⟨gw,0,none⟩=some (.slice (some ⟨gc,0,none⟩) code.length cc)∧wr.drew.cell? ⟨gs,t,none⟩=some (.int .i64 (z:Int))):=⟨c0,sz⟩
    have LI:Pure.linkI starts x=⟨3,x.a,x.b,(z:Int)⟩:=by
     unfold Pure.linkI;rw [if_pos e,ht,Int.toNat_natCast,List.getD_eq_getElem?_getD,hz];cases x;simp only at e;subst e;rfl
    have g9:=Lib.grownBy_setCell wr gc (i*4+3) (.int .i64 (z:Int))
    have S2:Hid ((wr.setCell ⟨gc,i*4+3,none⟩ (.int .i64 (z:Int))).drew.cell? ⟨gw,0,none⟩=some (.slice (some ⟨gc,0,none⟩) code.length cc)∧(wr.setCell ⟨gc,i*4+3,none⟩ (.int .i64 (z:Int))).drew.cell? ⟨gs,t,none⟩=some (.int .i64 (z:Int))):=by
     refine⟨blk_cell (j:=0) (blk_grown HW.out.b g9 (fun e'=>gn (Option.some.inj e'))) rfl,?_⟩;exact (World.cell?_setCell_other _ _ _ _ (by intro e';cases e';exact n1.2 rfl)).trans sz
    have W9:Hid (Wc B gw (.slice (some ⟨gc,0,none⟩) code.length cc) (Pure.linkUp starts bg (i+1) code) (wr.setCell ⟨gc,i*4+3,none⟩ (.int .i64 (z:Int))).drew):=by
     have b9:=blk_grown HW.out.b g9 (fun e'=>gn (Option.some.inj e'));refine⟨b9,?_,HW.out.lo⟩;have o9:=World.ownsRow.drew (own_set (j:=i*4+3) (u:=.int .i64 (z:Int)) OWN2.out);rw [Pure.linkUp_len,NX.out,LI];have cgx:Pure.cg (Pure.linkUp starts bg i code) i=x:=by unfold Pure.cg;rw [List.getD_eq_getElem?_getD,GX.out];rfl
     have:=(insCells_set (Pure.linkUp starts bg i code) i (by omega) ⟨3,x.a,x.b,(z:Int)⟩).2.2.1 (by rw [cgx];exact e.symm) (by rw [cgx]) (by rw [cgx]);rw [←this];exact o9
    have L9:Hid (Lk gw (some gc) (some gc) w (wr.setCell ⟨gc,i*4+3,none⟩ (.int .i64 (z:Int))).drew):=HL.out.trans ⟨g9.os,g9.tape,g9.output,g9.size,fun k hk _ h2=>g9.block k hk h2,.inl rfl⟩;clear NE SW sc hz LI g9 YL HW HL OWN2 NX GX HX ht
    go_wp2_with fail
    refine wp_region_held_drew (S:=fun w'=>w'.cell? ⟨gw,0,none⟩=some (.slice (some ⟨gc,0,none⟩) code.length cc)∧w'.cell? ⟨gs,t,none⟩=some (.int .i64 (z:Int))) (by kernel_rfl) S1.out (fun hHeld=>?_);refine wpAnyH_take (i:=0) (v:=?vp0) rfl (by kernel_rfl) (by kernel_rfl) (by kernel_rfl) (fun _ _ _ h=>h) (Or.inl ⟨by rfl,?hyp0⟩) (by assumption) ?restp0
    case hyp0=>(intro w hSw;obtain⟨s0,s1⟩:=hSw;go_simp;try (with_reducible rfl))
    try simp only [List.getElem_toArray,List.getElem_cons_zero,Act.put,List.setIfInBounds_toArray,List.set_cons_zero,List.set_cons_succ]
    refine wpAnyH_take (i:=1) (v:=?vp1) rfl (by kernel_rfl) (by kernel_rfl) (by kernel_rfl) (fun _ _ _ h=>h) (Or.inl ⟨by rfl,?hyp1⟩) (by assumption) ?restp1
    case hyp1=>(intro w hSw;obtain⟨s0,s1⟩:=hSw;go_simp;try (with_reducible rfl))
    try simp only [tk_,Act.put]
    refine wpAnyH_take (i:=2) (v:=?vp2) rfl (by kernel_rfl) (by kernel_rfl) (by kernel_rfl) (fun _ _ _ h=>h) (Or.inl ⟨by rfl,?hyp2⟩) (by assumption) ?restp2
    case hyp2=>(intro w hSw;obtain⟨s0,s1⟩:=hSw;go_simp;try (with_reducible rfl))
    try simp only [tk_,Act.put]
    refine wpAnyH_take (i:=3) (v:=?vp3) rfl (by kernel_rfl) (by kernel_rfl) (by kernel_rfl) (fun _ _ _ h=>h) (Or.inl ⟨by rfl,?hyp3⟩) (by assumption) ?restp3
    case hyp3=>(intro w hSw;obtain⟨s0,s1⟩:=hSw;go_simp;try (with_reducible rfl))
    try simp only [tk_,Act.put]
    refine wpAnyH_take (i:=4) (v:=?vp4) rfl (by kernel_rfl) (by kernel_rfl) (by kernel_rfl) (fun _ _ _ h=>h) (Or.inl ⟨by rfl,?hyp4⟩) (by assumption) ?restp4
    case hyp4=>(intro w hSw;obtain⟨s0,s1⟩:=hSw;go_simp;try (with_reducible rfl))
    try simp only [tk_,Act.put]
    refine wpAnyH_take (i:=5) (v:=?vp5) rfl (by kernel_rfl) (by kernel_rfl) (by kernel_rfl) (fun _ _ _ h=>h) (Or.inl ⟨by rfl,?hyp5⟩) (by assumption) ?restp5
    case hyp5=>(intro w hSw;obtain⟨s0,s1⟩:=hSw;go_simp;try (with_reducible rfl))
    try simp only [tk_,Act.put]
    refine wpAnyH_take (i:=6) (v:=?vp6) rfl (by kernel_rfl) (by kernel_rfl) (by kernel_rfl) (fun _ _ _ h=>h) (Or.inl ⟨by rfl,?hyp6⟩) (by assumption) ?restp6
    case hyp6=>(intro w hSw;obtain⟨s0,s1⟩:=hSw;go_simp;try (with_reducible rfl))
    try simp only [tk_,Act.put]
    refine wpAnyH_take (i:=7) (v:=?vp7) rfl (by kernel_rfl) (by kernel_rfl) (by kernel_rfl) (fun _ _ _ h=>h) (Or.inl ⟨by rfl,?hyp7⟩) (by assumption) ?restp7
    case hyp7=>(intro w hSw;obtain⟨s0,s1⟩:=hSw;go_simp;try (with_reducible rfl))
    try simp only [tk_,Act.put]
    refine wpAnyH_take (i:=8) (v:=?vp8) rfl (by kernel_rfl) (by kernel_rfl) (by kernel_rfl) (fun _ _ _ h=>h) (Or.inl ⟨by rfl,?hyp8⟩) (by assumption) ?restp8
    case hyp8=>(intro w hSw;obtain⟨s0,s1⟩:=hSw;go_simp;try (with_reducible rfl))
    try simp only [tk_,Act.put]
    refine wpAnyH_take (i:=9) (v:=?vp9) rfl (by kernel_rfl) (by kernel_rfl) (by kernel_rfl) (fun _ _ _ h=>h) (Or.inl ⟨by rfl,?hyp9⟩) (by assumption) ?restp9
    case hyp9=>(intro w hSw;obtain⟨s0,s1⟩:=hSw;go_simp;try (with_reducible rfl))
    try simp only [tk_,Act.put]
    refine wpAnyH_take (i:=10) (v:=?vp10) rfl (by kernel_rfl) (by kernel_rfl) (by kernel_rfl) (fun _ _ _ h=>h) (Or.inl ⟨by rfl,?hyp10⟩) (by assumption) ?restp10
    case hyp10=>(intro w hSw;obtain⟨s0,s1⟩:=hSw;go_simp;try (with_reducible rfl))
    try simp only [tk_,Act.put]
    refine wpAnyH_take (i:=11) (v:=?vp11) rfl (by kernel_rfl) (by kernel_rfl) (by kernel_rfl) (fun _ _ _ h=>h) (Or.inl ⟨by rfl,?hyp11⟩) (by assumption) ?restp11
    case hyp11=>(intro w hSw;obtain⟨s0,s1⟩:=hSw;go_simp;try (with_reducible rfl))
    try simp only [tk_,Act.put]
    refine wpAnyH_take (i:=12) (v:=?vp12) rfl (by kernel_rfl) (by kernel_rfl) (by kernel_rfl) (fun _ _ _ h=>h) (Or.inl ⟨by rfl,?hyp12⟩) (by assumption) ?restp12
    case hyp12=>(intro w hSw;obtain⟨s0,s1⟩:=hSw;go_simp;try (with_reducible rfl))
    try simp only [tk_,Act.put]
    refine wpAnyH_ready (rs:=[13]) (by kernel_rfl) (by simp) ?_
    refine AllReadyH.cons rfl (fun K hK=>?_) AllReadyH.nil
    go_simp
    refine hK.out _ _ hHeld (fun hHeld2=>?_);clear hK K
    try simp only [tk_,Act.put]
    refine wpAnyH_take (i:=14) (v:=?vq14) rfl (by kernel_rfl) (by kernel_rfl) (by kernel_rfl) (fun _ _ _ h=>h) (Or.inl ⟨by rfl,?hyq14⟩) (by assumption) ?restq14
    case hyq14=>(intro w hSw;obtain⟨s0,s1⟩:=hSw;go_simp;try (with_reducible rfl))
    try simp only [tk_,Act.put]
    refine wpAnyH_take (i:=15) (v:=?vq15) rfl (by kernel_rfl) (by kernel_rfl) (by kernel_rfl) (fun _ _ _ h=>h) (Or.inl ⟨by rfl,?hyq15⟩) (by assumption) ?restq15
    case hyq15=>(intro w hSw;obtain⟨s0,s1⟩:=hSw;go_simp;try (with_reducible rfl))
    try simp only [tk_,Act.put]
    refine wpAnyH_take (i:=16) (v:=?vp16) rfl (by kernel_rfl) (by kernel_rfl) (by kernel_rfl) (fun _ _ _ h=>h) (Or.inl ⟨by rfl,?hyp16⟩) (by assumption) ?restp16
    case hyp16=>(intro w hSw;obtain⟨s0,s1⟩:=hSw;go_simp;try (with_reducible rfl))
    try simp only [tk_,Act.put]
    refine wpAnyH_take (i:=17) (v:=?vp17) rfl (by kernel_rfl) (by kernel_rfl) (by kernel_rfl) (fun _ _ _ h=>h) (Or.inl ⟨by rfl,?hyp17⟩) (by assumption) ?restp17
    case hyp17=>(intro w hSw;obtain⟨s0,s1⟩:=hSw;go_simp;try (with_reducible rfl))
    try simp only [tk_,Act.put]
    refine wpAnyH_ready (rs:=[18]) (by kernel_rfl) (by simp) ?_
    refine AllReadyH.cons rfl (fun K hK=>?_) AllReadyH.nil
    go_simp
    refine hK.out _ _ S2.out (fun hHeld3=>?_);clear hK K;refine wpAnyH_done (by kernel_rfl) ?_ _;go_wp2;go_roundg (code.length-(i+1))
    case measure=>omega
    case rel=>exact⟨i+1,by omega,by omega,rfl,by go_num,W9.out,L9.out⟩
   ·have e1:(x.op == 3)=false:=by simp [e]
    have e3:decide (x.op=3)=false:=decide_eq_false e
    have SAME:Hid (Pure.linkUp starts bg (i+1) code=Pure.linkUp starts bg i code):=by
     show _=_;rw [NX.out];have:Pure.linkI starts x=x:=by unfold Pure.linkI;rw [if_neg e]
     rw [this]
     exact List.ext_getElem? (fun j=>by
      rw [List.getElem?_set];split
      ·rename_i hj
       subst hj;rw [if_pos (by rw [YL];exact hi)];exact GX.out.symm
      ·rfl)
    clear YL;go_wp2;go_roundg (code.length-(i+1))
    case measure=>omega
    case rel=>exact⟨i+1,by omega,by omega,rfl,by go_num,by rw [SAME.out];exact HW.out,HL.out⟩
  ·have d1:=df_ (i:Int) (code.length:Int) (by omega)
   have e:i=code.length:=by omega
   have FIN:Hid (RetLy B gw (.slice (some ⟨gc,0,none⟩) code.length cc) (code.take bg++(code.drop bg).map (Pure.linkI starts)) w wr):=by
    refine⟨.slice (some ⟨gc,0,none⟩) code.length cc,hL,?_⟩;rw [←Pure.linkUp_all,←e];have:=hW;rw [e] at this ⊢;exact this
   clear hW hL e YL;go_wp2
   go_end0
   exact⟨rfl,FIN.out⟩
def kdZ:List Value:=.int .i64 0::List.replicate 256 (Value.int .i64 0)
theorem kdZ_length:kdZ.length=257:=by unfold kdZ;rw [List.length_cons,List.length_replicate]
theorem kd_info:(Tryz.prog.info? 148).map (fun i=>(i.zero,i.size,i.bytes))=some (some (.agg kdZ.toArray),257,2056):=by kernel_rfl
theorem kd_zeroV (w:World):(zeroValue 148).run Tryz.prog w=.ok (.agg kdZ.toArray) w:=by
 obtain⟨i,h1,h2,_⟩:=info_parts kd_info
 simp [zeroValue,typeInfo,go_sem,h1,h2]
theorem kd_size:(Tryz.prog.info? 148).map (·.size)=some 257:=by
 obtain⟨i,h1,_,h3,_⟩:=info_parts kd_info
 rw [h1,Option.map_some,h3]
theorem kd_built (r:Int):Tryz.prog.built 148 [(0,.int .i64 r)]=some ((Value.int .i64 r)::List.replicate 256 (Value.int .i64 0)).toArray:=by kernel_rfl
theorem kdC_new (r:Int):kdC ⟨r,Pure.z256⟩=(Value.int .i64 r)::List.replicate 256 (Value.int .i64 0):=by
 unfold kdC
 rw [z256C]
theorem kdC_length {k:Pure.Kd} (h:k.longer.length=256):(kdC k).length=257:=by simp [kdC,natCells_length,h]
theorem kdC_one (k:Pure.Kd):∀u∈kdC k,u.oneCell'=true:=by
 intro u hu
 rcases List.mem_cons.1 hu with e | e
 ·rw [e];rfl
 ·simp only [natCells,List.mem_map] at e
  obtain⟨z,_,rfl⟩:=e;rfl
def kdsC (K:List Pure.Kd):List Value:=K.flatMap kdC
theorem kdsC_append (a b:List Pure.Kd):kdsC (a++b)=kdsC a++kdsC b:=by simp [kdsC]
theorem kdsC_get {K:List Pure.Kd} (h:∀k∈K,k.longer.length=256) {p j:Nat} {k:Pure.Kd} (hp:K[p]?=some k) (hj:j<257):(kdsC K)[p*257+j]?=(kdC k)[j]?:=by
 induction K generalizing p with
 | nil=>simp at hp
 | cons z r ih=>
  have hz:=kdC_length (h z (List.mem_cons_self ..));show (kdC z++kdsC r)[p*257+j]?=_
  cases p with
  | zero=>
   rw [List.getElem?_cons_zero] at hp;cases hp;rw [Nat.zero_mul,Nat.zero_add,List.getElem?_append_left (by omega)]
  | succ p=>
   rw [List.getElem?_cons_succ] at hp;rw [List.getElem?_append_right (by omega),hz,show (p+1)*257+j-257=p*257+j by omega];exact ih (fun t ht=>h t (List.mem_cons_of_mem _ ht)) hp
structure Kdm (B:Nat) (W:World) (v:Value) (K:List Pure.Kd):Prop where
 own:W.ownsRow B 148 257 v K.length (kdsC K)
 len:∀k∈K,k.longer.length=256
theorem Kdm.below {B:Nat} {W W':World} {v:Value} {K:List Pure.Kd} (h:Kdm B W v K) (hb:Below W.heap.size W W'):Kdm B W' v K:=⟨own_below h.own hb lr_,h.len⟩
theorem Kdm.get {B:Nat} {W:World} {gs n cap:Nat} {K:List Pure.Kd} (h:Kdm B W (.slice (some ⟨gs,0,none⟩) n cap) K) {p:Nat} {k:Pure.Kd} (hp:K[p]?=some k):n=K.length∧W.rangeAt gs (p*257) (kdC k):=by
 have hl:=(List.getElem?_eq_some_iff.1 hp).1
 obtain⟨g,c,e,_,_⟩:=own_some h.own (by omega)
 cases e
 refine⟨rfl,fun j u hu=>?_⟩
 have hj:j<257:=by
  have:=(List.getElem?_eq_some_iff.1 hu).1;rwa [kdC_length (h.len k (List.mem_of_getElem? hp))] at this
 have hc:=kdsC_get h.len hp hj
 rw [hu] at hc
 exact own_cell h.own hc
theorem wpList_append_kd {w:World} {ops:Array Oper} {rest:List Oper} {o:Oper} {a:Act} {Q:Exit→Act→World→Prop} (hgd:o.guard=none) (s x:Operand)
  (ho:o.op=.call { callee:=.builtin .append,args:=#[s,x],argTypes:=#[88,88] }) (base:Nat) (v:Value) (K:List Pure.Kd) (hs:a.eval s=v) (hown:w.ownsRow base 148 257 v K.length (kdsC K))
  (gx:Nat) (k:Pure.Kd) (hx:a.eval x=.slice (some ⟨gx,0,none⟩) 1 1) (hb:Blk w gx 148 (kdC k)) (hk:k.longer.length=256) (hlen:K.length≤1000) (hbase:base≤w.heap.size)
  (h:∀v' w',w'.ownsRow base 148 257 v' (K++[k]).length (kdsC (K++[k]))→w.grownBy w' v.ownBlock→wpList Tryz.prog ops Q rest (a.put o.dst v') w'):wpList Tryz.prog ops Q (o::rest) a w:=by
 obtain⟨il,hil,hl0,hl1,hl2⟩:=info_parts kd_info
 refine wpList_append_own _ hgd s x 88 ho base 148 il _ 257 2056 Tryz.underlying88 hil hl0 hl1 hl2 (by simp [Value.cells,kdZ_length]) (by decide) v K.length (kdsC K) hs hown ⟨gx,0,none⟩ 1 1 (kdC k) hx (by rw [kdC_length hk]) ?_ (kdC_one k) (by unfold maxLen;omega) (by omega) hbase ?_
 ·intro j y hy
  have:=blk_cell hb hy;simpa [add_eq] using this
 ·intro v' w' h1 h2 _
  refine h v' w' ?_ h2;rw [List.length_append,kdsC_append];have e:kdsC [k]=kdC k:=by simp [kdsC]
  rw [e];exact h1
theorem setm_zero {B:Nat} {W:World} {v:Value} {ss:List Pure.St} (h:Setm B W v ss):Setm 0 W v ss:=by
 obtain⟨ts,h1,h2,h3,h4⟩:=h
 exact⟨ts,own_mono h1 (Nat.zero_le _),h2,h3,h4⟩
structure Fa (w:World) (gs cap:Nat) (vr:Value) (ss:List Pure.St) (rs:List Int) (W:World):Prop where
 be:Below w.heap.size w W
 b:Blk W w.heap.size 139 [.slice (some ⟨gs,0,none⟩) ss.length cap,vr]
 r:W.ownsRow w.heap.size 3 1 vr rs.length (intCells rs)
section
variable {w W W' w2:World} {gs cap:Nat} {vr:Value} {ss:List Pure.St} {rs:List Int}
theorem Fa.below (h:Fa w gs cap vr ss rs W) (hb:Below W.heap.size W W'):Fa w gs cap vr ss rs W':=
 ⟨bel0 h.be hb,blk_below h.b hb (blk_lt h.b),own_below h.r hb lr_⟩
theorem Fa.add (h:Fa w gs cap vr ss rs W) {r:Int} {v2:Value} (ho:w2.ownsRow w.heap.size 3 1 v2 (rs.length+1) (intCells rs++[.int .i64 r])) (hg:W.grownBy w2 vr.ownBlock) :
  Fa w gs cap v2 ss (rs++[r]) (w2.setCell ⟨w.heap.size,1,none⟩ v2):=by
 have b2:=row_far h.r h.b (by decide) hg
 have g2:=Lib.grownBy_setCell w2 w.heap.size 1 v2
 have be2:Below w.heap.size w w2:=h.be.grown hg h.be.size (fun k e=>(World.ownsRow.lt h.r k e).1)
 refine⟨be2.grown g2 be2.size (fun k e=>by cases e;exact lr_),blk_set b2 1 _,?_⟩
 have:w2.ownsRow w.heap.size 3 1 v2 (rs++[r]).length (intCells (rs++[r])):=by
  rw [List.length_append];have e:intCells (rs++[r])=intCells rs++[.int .i64 r]:=by simp [intCells]
  rw [e];exact ho
 exact row_apart this b2 (by decide) g2
theorem Fa.md (h:Fa w gs cap vr ss rs W) (hs:Setm 0 W (.slice (some ⟨gs,0,none⟩) ss.length cap) ss) (hn:rs.length=ss.length):Md 0 w.heap.size gs cap vr ss rs W:=⟨h.b,hs,own_mono h.r (Nat.zero_le _),hn⟩
end
theorem mode_built (a:Option Addr) (n c:Nat):Tryz.prog.built 139 [(0,.slice a n c)]=some #[.slice a n c,.slice none 0 0]:=by kernel_rfl
namespace Pure
theorem rulesOf_take (ls:List Lp) (ss:List St) {k:Nat} {x:St} (h:ss[k]?=some x):(rulesOf ls ss).take (k+1)=(rulesOf ls ss).take k++[firstRule ls x.places]:=by
 rw [List.take_add_one]
 unfold rulesOf
 rw [List.getElem?_map,h]
 rfl
theorem rulesOf_len (ls:List Lp) (ss:List St):(rulesOf ls ss).length=ss.length:=by simp [rulesOf]
end Pure
end Go.Proofs.YtmccnmgaoppogaaGreat
