/-
 The walks: lists of numbers that go upwards. (lists)
 The walks: bytes by value. (rules)
-/
import Derived.Test.YtmccnmgaoppogaaGreatMeA
import Derived.Test.YtmccnmgaoppogaaGreatEA
import Derived.Laws.AppendOwnNone
import Derived.Deep.LoopGhost
import Derived.Deep.DeepCutAuto
import Derived.Deep.QuietTactic
import Derived.Deep.WholeRow
import Derived.Deep.MidRow
namespace Go.Proofs.YtmccnmgaoppogaaGreat
set_option maxRecDepth 100000
set_option maxHeartbeats 8000000
open Go.RowKit
def RetVal (v:Value) (w:World) (e:Ending) (w':World):Prop:=e=.returned v∧Below w.heap.size w w'
def natCells (l:List Nat):List Value:=l.map (fun (n:Nat)=>.int .i64 (n:Int))
theorem natCells_length (l:List Nat):(natCells l).length=l.length:=by simp [natCells]
theorem natCells_get {l:List Nat} {i x:Nat} (h:l[i]?=some x):(natCells l)[i]?=some (.int .i64 (x:Int)):=by simp [natCells,h]
theorem natCells_append (a b:List Nat):natCells (a++b)=natCells a++natCells b:=by simp [natCells]
def Nats (w:World) (v:Value) (l:List Nat):Prop:=w.ownsRow 0 3 1 v l.length (natCells l)
section
variable {w w':World} {v:Value} {l:List Nat}
theorem Nats.form (h:Nats w v l):∃ao cap,v=.slice ao l.length cap∧l.length≤cap∧cap≤9223372036854775807∧(ao=none→cap=0):=by
 rcases h.2 with ⟨rfl,h2⟩ | ⟨g,cap,cur,rfl,_,_,h3,h4,_⟩
 ·exact⟨none,0,by rw [h2],by omega,by omega,fun _=>rfl⟩
 ·exact⟨some ⟨g,0,none⟩,cap,rfl,h3,h4,fun e=>by cases e⟩
theorem Nats.some {ao:Option Addr} {n cap:Nat} (h:Nats w (.slice ao n cap) l) (hl:0<l.length):∃g,ao=.some ⟨g,0,none⟩∧g<w.heap.size∧∀(j x:Nat),l[j]?=.some x→w.cell? ⟨g,j,none⟩=.some (.int .i64 (x:Int)):=by
 obtain⟨g,cap',e,_,_⟩:=own_some h hl
 cases e
 exact⟨g,rfl,(own_base h).2,fun j x hx=>own_cell h (natCells_get hx)⟩
theorem Nats.below (h:Nats w v l) (hb:Below w.heap.size w w'):Nats w' v l:=own_below h hb lr_
theorem Nats.nil (w:World):Nats w (.slice none 0 0) []:=own_nil _ _ _ _
end
theorem size_int:(Tryz.prog.info? 3).map (·.size)=some 1:=by kernel_rfl
def cutA (ao:Option Addr) (c i:Nat):Option Addr:=if c=i then ao else ao.map (fun a=>a.add i)
theorem cut_from (ao:Option Addr) (n c i:Nat) (h1:i≤n) (h2:n≤c) (hn:ao=none→c=0) (w:World):(Instr.slice 31 (.slice ao n c) (some (.int .i64 i)) none none).run Tryz.prog w=.ok (.slice (cutA ao c i) (n-i) (c-i)) w:=by
 have hs:=size_int
 unfold cutA
 cases hq:Tryz.prog.info? 3 with
 | none=>simp [hq] at hs
 | some k=>
  have hk:k.size=1:=by simpa [hq] using hs
  cases ao with
  | none=>
   have:=hn rfl;subst this;have e1:n=0:=by omega
   have e2:i=0:=by omega
   subst e1 e2;simp [go_sem,Tryz.underlying31,sizeOf,typeInfo,hq]
  | some a=>
   by_cases hc:c=i
   ·simp [go_sem,Tryz.underlying31,sizeOf,typeInfo,hq,hk,h1,hc]
   ·simp [go_sem,Tryz.underlying31,sizeOf,typeInfo,hq,hk,h1,hc]
def Src (w:World) (s:Option Addr) (m c:Nat) (l:List Nat):Prop:=m=l.length∧((s=none∧m=0∧c=0)∨∃ad,s=some ad∧∀(j x:Nat),l[j]?=some x→w.cell? (ad.add j)=some (.int .i64 (x:Int)))
theorem Nats.cut {w:World} {ao:Option Addr} {n cap:Nat} {l:List Nat} (h:Nats w (.slice ao n cap) l) {i:Nat} (hi:i≤l.length):Src w (cutA ao cap i) (n-i) (cap-i) (l.drop i):=by
 obtain⟨ao',cap',e,h2,_,h4⟩:=h.form
 cases e
 refine⟨by simp,?_⟩
 unfold cutA
 cases ao with
 | none=>
  have:=h4 rfl;left;refine⟨by split <;> rfl,by omega,by omega⟩
 | some a=>
  right;split
  ·refine⟨a,rfl,fun j x hx=>?_⟩
   rw [List.drop_eq_nil_of_le (by omega)] at hx;cases hx
  ·refine⟨a.add i,rfl,fun j x hx=>?_⟩
   rw [List.getElem?_drop] at hx;have hl:=(List.getElem?_eq_some_iff.1 hx).1;obtain⟨g,e,_,hg⟩:=h.some (by omega);cases e;rw [add_eq,add_eq,Nat.zero_add];exact hg _ _ hx
theorem wpList_append_nats {w:World} {ops:Array Oper} {rest:List Oper} {o:Oper} {a:Act} {Q:Exit→Act→World→Prop} (hgd:o.guard=none) (s x:Operand)
  (ho:o.op=.call { callee:=.builtin .append,args:=#[s,x],argTypes:=#[31,31] }) (base:Nat) (v:Value) (u l:List Nat) (hs:a.eval s=v) (hown:w.ownsRow base 3 1 v u.length (natCells u))
  (so:Option Addr) (m c:Nat) (hx:a.eval x=.slice so m c) (hsrc:Src w so m c l) (hlen:u.length+l.length≤1000000000000) (hbase:base≤w.heap.size)
  (h:∀v' w',w'.ownsRow base 3 1 v' (u++l).length (natCells (u++l))→w.grownBy w' v.ownBlock→wpList Tryz.prog ops Q rest (a.put o.dst v') w'):wpList Tryz.prog ops Q (o::rest) a w:=by
 obtain⟨i0,hi,hz0,hz1,hz2⟩:=info_parts Tryz.inff3
 obtain⟨rfl,hsrc⟩:=hsrc
 rcases hsrc with ⟨rfl,hm,rfl⟩ | ⟨ad,rfl,hc⟩
 ·have e:l=[]:=List.eq_nil_of_length_eq_zero hm
  subst e;refine wpList_append_own_none hgd s x 31 ho base 3 i0 1 Tryz.underlying31 hi v u.length (natCells u) hs hown hx (h v w ?_ (World.grownBy.refl _ _));simpa using hown
 ·refine wpList_append_own _ hgd s x 31 ho base 3 i0 (.int .i64 0) 1 8 Tryz.underlying31 hi hz0 hz1 hz2 rfl (by decide) v u.length (natCells u) hs hown ad l.length c (natCells l) hx (by simp [natCells_length]) ?_ ?_ (by unfold maxLen;omega) (by omega) hbase ?_
  ·intro j y hy
   cases hl:l[j]? with
   | none=>simp [natCells,hl] at hy
   | some z=>
    rw [natCells_get hl] at hy;cases hy;exact hc j z hl
  ·intro y hy
   simp only [natCells,List.mem_map] at hy;obtain⟨z,_,rfl⟩:=hy;rfl
  ·intro v' w' h1 h2 _
   refine h v' w' ?_ h2;rw [List.length_append,natCells_append];exact h1
theorem union_any (va vb:Value) (a b:List Nat) (w:World) (ha:Nats w va a) (hb:Nats w vb b) (la:a.length≤1000000) (lb:b.length≤1000000) :
  Calls Tryz.prog 116 #[va,vb] w (RetRow 3 1 (Pure.un a b).length (natCells (Pure.un a b)) w):=by
 obtain⟨i0,hi,hz0,hz1,hz2⟩:=info_parts Tryz.inff3
 obtain⟨aa,ca,rfl,a1,a2,a3⟩:=ha.form
 obtain⟨ab,cb,rfl,b1,b2,b3⟩:=hb.form
 have HA:=hide ha
 have HB:=hide hb
 clear ha hb
 go_enter Tryz.func116,Tryz.ntmps116
 go_wp2_with (at_make;refine wpList_make_own _ rfl _ _ 31 rfl w.heap.size 3 i0 (.int .i64 0) 1 Tryz.underlying31 hi hz0 hz1 _ _ _ (a.length+b.length) rfl rfl (by omega) (by rw [hz2];omega) (by unfold maxLen;omega) lr_ ?_;intro w1 hown1 hgrow1)
 have hbel1:Below w.heap.size w w1:=(Below.refl _ _).grown hgrow1 lr_ (fun k h=>by cases h)
 have HO:=hide hown1
 clear hown1 hgrow1
 go_loopg [5,6,7] (a.length+b.length) (fun gk fv iv jv wr=>∃(i j:Nat) (u:List Nat) (f:Value),fv=f∧iv=.int .i64 i∧jv=.int .i64 j∧i≤a.length∧j≤b.length∧gk=a.length+b.length-i-j∧u.length≤i+j∧Pure.un a b=u++Pure.un (a.drop i) (b.drop j)∧Below w.heap.size w wr∧wr.ownsRow w.heap.size 3 1 f u.length (natCells u))
 case atStart=>exact⟨0,0,[],_,rfl,rfl,rfl,Nat.zero_le _,Nat.zero_le _,rfl,Nat.zero_le _,rfl,hbel1,HO.out⟩
 case round=>
  clear HO hbel1;obtain⟨i,j,u,f,rfl,rfl,rfl,hia,hjb,rfl,hul,hun,hbel,hown⟩:=hrel;have HO:=hide hown;have HBL:=hide hbel;have HUN:=hide hun;clear hown hun;by_cases h1:i<a.length
  ·by_cases h2:j<b.length
   ·have d1:=dl_ (i:Int) (a.length:Int) (by omega)
    have d2:=dl_ (j:Int) (b.length:Int) (by omega);obtain⟨x,hx⟩:=gx_ a i h1;obtain⟨y,hy⟩:=gx_ b j h2;have e1:a.drop i=x::a.drop (i+1):=by rw [List.drop_eq_getElem?_toList_append,hx];rfl
    have e2:b.drop j=y::b.drop (j+1):=by rw [List.drop_eq_getElem?_toList_append,hy];rfl
    obtain⟨ga,ea,gl,gc⟩:=HA.out.some (by omega);obtain⟨gb,eb,hl,hc⟩:=HB.out.some (by omega);subst ea eb;have xa:wr.cell? ⟨ga,i,none⟩=some (.int .i64 (x:Int)):=(hbel.cell (p:=⟨ga,i,none⟩) gl).trans (gc i x hx);have yb:wr.cell? ⟨gb,j,none⟩=some (.int .i64 (y:Int)):=(hbel.cell (p:=⟨gb,j,none⟩) hl).trans (hc j y hy);have wi:=wr_ (i:Int) (by omega) (by omega);have wj:=wr_ (j:Int) (by omega) (by omega);have sz:=hbel.size;clear gc hc hbel;rcases Nat.lt_trichotomy x y with hxy | hxy | hxy
    ·have c1:=dl_ (x:Int) (y:Int) (by omega)
     go_wp2_with fail
     go_region
     go_wp2_with (at_builtin;go_must (refine wpList_append_nats rfl (.tmp 45) (.tmp 50) rfl w.heap.size _ u [x] rfl (World.ownsRow.alloc (World.ownsRow.drew HO.out) _) (some ⟨wr.heap.size,0,none⟩) 1 1 rfl ⟨rfl,.inr ⟨_,rfl,fun j0 x0 h0=>cell_list3 (xs:=[.int .i64 (x:Int)]) rfl j0 _ (by cases j0 with | zero=>simp at h0;subst h0;rfl | succ j0=>simp at h0)⟩⟩ (by simp;omega) (by simp;omega) ?_);intro v2 w2 hown2 hgrow2)
     have hb2:Below w.heap.size w w2:=((HBL.out.drew).alloc sz _).grown hgrow2 (by simp;omega) (fun k' h=>(World.ownsRow.lt HO.out k' h).1);have hl2:(u++[x]).length=u.length+1:=by simp
     clear hgrow2;go_roundg (a.length+b.length-(i+1)-j)
     case measure=>omega
     case rel=>exact⟨i+1,j,u++[x],_,rfl,by go_num,rfl,by omega,by omega,by omega,by omega,by rw [HUN.out,e1,e2,Pure.un_lt hxy];simp,hb2,hown2⟩
    ·subst hxy
     have c1:=df_ (x:Int) (x:Int) (by omega)
     go_wp2_with fail
     go_region
     go_wp2_with fail
     go_region
     go_wp2_with (at_builtin;go_must (refine wpList_append_nats rfl (.tmp 24) (.tmp 29) rfl w.heap.size _ u [x] rfl (World.ownsRow.alloc (World.ownsRow.drew (World.ownsRow.drew HO.out)) _) (some ⟨wr.heap.size,0,none⟩) 1 1 rfl ⟨rfl,.inr ⟨_,rfl,fun j0 x0 h0=>cell_list3 (xs:=[.int .i64 (x:Int)]) rfl j0 _ (by cases j0 with | zero=>simp at h0;subst h0;rfl | succ j0=>simp at h0)⟩⟩ (by simp;omega) (by simp;omega) ?_);intro v2 w2 hown2 hgrow2)
     have hb2:Below w.heap.size w w2:=((HBL.out.drew.drew).alloc sz _).grown hgrow2 (by simp;omega) (fun k' h=>(World.ownsRow.lt HO.out k' h).1);have hl2:(u++[x]).length=u.length+1:=by simp
     clear hgrow2;go_roundg (a.length+b.length-(i+1)-(j+1))
     case measure=>omega
     case rel=>exact⟨i+1,j+1,u++[x],_,rfl,by go_num,by go_num,by omega,by omega,by omega,by omega,by rw [HUN.out,e1,e2,Pure.un_eq];simp,hb2,hown2⟩
    ·have c1:=df_ (x:Int) (y:Int) (by omega)
     have c2:=dl_ (y:Int) (x:Int) (by omega)
     go_wp2_with fail
     go_region
     go_wp2_with fail
     go_region
     go_wp2_with (at_builtin;go_must (refine wpList_append_nats rfl (.tmp 64) (.tmp 69) rfl w.heap.size _ u [y] rfl (World.ownsRow.alloc (World.ownsRow.drew (World.ownsRow.drew HO.out)) _) (some ⟨wr.heap.size,0,none⟩) 1 1 rfl ⟨rfl,.inr ⟨_,rfl,fun j0 x0 h0=>cell_list3 (xs:=[.int .i64 (y:Int)]) rfl j0 _ (by cases j0 with | zero=>simp at h0;subst h0;rfl | succ j0=>simp at h0)⟩⟩ (by simp;omega) (by simp;omega) ?_);intro v2 w2 hown2 hgrow2)
     have hb2:Below w.heap.size w w2:=((HBL.out.drew.drew).alloc sz _).grown hgrow2 (by simp;omega) (fun k' h=>(World.ownsRow.lt HO.out k' h).1);have hl2:(u++[y]).length=u.length+1:=by simp
     clear hgrow2;go_roundg (a.length+b.length-i-(j+1))
     case measure=>omega
     case rel=>exact⟨i,j+1,u++[y],_,rfl,rfl,by go_num,by omega,by omega,by omega,by omega,by rw [HUN.out,e1,e2,Pure.un_gt hxy];simp,hb2,hown2⟩
   ·have d1:=dl_ (i:Int) (a.length:Int) (by omega)
    have d2:=df_ (j:Int) (b.length:Int) (by omega);have sa:∀w,(Instr.slice 31 (.slice aa a.length ca) (some (.int .i64 i)) none none).run Tryz.prog w=.ok (.slice (cutA aa ca i) (a.length-i) (ca-i)) w:=fun w=>cut_from aa a.length ca i hia a1 a3 w
    have sb:∀w,(Instr.slice 31 (.slice ab b.length cb) (some (.int .i64 j)) none none).run Tryz.prog w=.ok (.slice (cutA ab cb j) (b.length-j) (cb-j)) w:=fun w=>cut_from ab b.length cb j hjb b1 b3 w
    have sz:=hbel.size;have ql:u.length+(a.drop i).length≤10000000:=by simp;omega
    have ql2:(u++a.drop i).length+(b.drop j).length≤10000000:=by simp;omega
    clear hbel;go_upto_region 14 with (at_builtin;refine wpList_append_nats rfl (.tmp 73) (.tmp 76) rfl w.heap.size _ u (a.drop i) rfl HO.out _ _ _ rfl ((HA.out.below HBL.out).cut hia) (by omega) sz ?_;intro v2 w2 hown2 hgrow2;clear sa);have hb2:Below w.heap.size w w2:=HBL.out.grown hgrow2 sz (fun k' h=>(World.ownsRow.lt HO.out k' h).1);have sz2:=hb2.size;clear hgrow2
    go_wp2_with (at_builtin;go_must (refine wpList_append_nats rfl (.tmp 78) (.tmp 81) rfl w.heap.size _ (u++a.drop i) (b.drop j) rfl hown2 _ _ _ rfl ((HB.out.below hb2).cut hjb) (by omega) sz2 ?_);intro v3 w3 hown3 hgrow3)
    have hb3:Below w.heap.size w w3:=hb2.grown hgrow3 sz2 (fun k' h=>(World.ownsRow.lt hown2 k' h).1);clear hgrow3;go_ret;refine⟨_,rfl,hb3,?_⟩
    have he:Pure.un a b=u++a.drop i++b.drop j:=by
     rw [HUN.out,show b.drop j=[] from List.drop_eq_nil_of_le (by omega),Pure.un_nil'];simp
    rw [he];exact hown3
  ·have d1:=df_ (i:Int) (a.length:Int) (by omega)
   have sa:∀w,(Instr.slice 31 (.slice aa a.length ca) (some (.int .i64 i)) none none).run Tryz.prog w=.ok (.slice (cutA aa ca i) (a.length-i) (ca-i)) w:=fun w=>cut_from aa a.length ca i hia a1 a3 w
   have sb:∀w,(Instr.slice 31 (.slice ab b.length cb) (some (.int .i64 j)) none none).run Tryz.prog w=.ok (.slice (cutA ab cb j) (b.length-j) (cb-j)) w:=fun w=>cut_from ab b.length cb j hjb b1 b3 w
   have sz:=hbel.size;have ql:u.length+(a.drop i).length≤10000000:=by simp;omega
   have ql2:(u++a.drop i).length+(b.drop j).length≤10000000:=by simp;omega
   clear hbel;go_upto_region 14 with (at_builtin;refine wpList_append_nats rfl (.tmp 73) (.tmp 76) rfl w.heap.size _ u (a.drop i) rfl HO.out _ _ _ rfl ((HA.out.below HBL.out).cut hia) (by omega) sz ?_;intro v2 w2 hown2 hgrow2;clear sa);have hb2:Below w.heap.size w w2:=HBL.out.grown hgrow2 sz (fun k' h=>(World.ownsRow.lt HO.out k' h).1);have sz2:=hb2.size;clear hgrow2
   go_wp2_with (at_builtin;go_must (refine wpList_append_nats rfl (.tmp 78) (.tmp 81) rfl w.heap.size _ (u++a.drop i) (b.drop j) rfl hown2 _ _ _ rfl ((HB.out.below hb2).cut hjb) (by omega) sz2 ?_);intro v3 w3 hown3 hgrow3)
   have hb3:Below w.heap.size w w3:=hb2.grown hgrow3 sz2 (fun k' h=>(World.ownsRow.lt hown2 k' h).1);clear hgrow3;go_ret;refine⟨_,rfl,hb3,?_⟩
   have he:Pure.un a b=u++a.drop i++b.drop j:=by
    rw [HUN.out,show a.drop i=[] from List.drop_eq_nil_of_le (by omega),Pure.un_nil];simp
   rw [he];exact hown3
theorem meet_any (va vb:Value) (a b:List Nat) (w:World) (ha:Nats w va a) (hb:Nats w vb b) (la:a.length≤1000000) (lb:b.length≤1000000) :
  Calls Tryz.prog 87 #[va,vb] w (RetVal (.bool (Pure.meet a b)) w):=by
 obtain⟨aa,ca,rfl,a1,a2,a3⟩:=ha.form
 obtain⟨ab,cb,rfl,b1,b2,b3⟩:=hb.form
 have HA:=hide ha
 have HB:=hide hb
 clear ha hb
 go_enter Tryz.func87,Tryz.ntmps87
 go_wp2_with fail
 go_loopg [5,6] (a.length+b.length) (fun gk iv jv wr=>∃(i j:Nat),iv=.int .i64 i∧jv=.int .i64 j∧i≤a.length∧j≤b.length∧gk=a.length+b.length-i-j∧Pure.meet a b=Pure.meet (a.drop i) (b.drop j)∧Below w.heap.size w wr)
 case atStart=>exact⟨0,0,rfl,rfl,Nat.zero_le _,Nat.zero_le _,rfl,rfl,Below.refl _ _⟩
 case round=>
  obtain⟨i,j,rfl,rfl,hia,hjb,rfl,hun,hbel⟩:=hrel;have HBL:=hide hbel;have HUN:=hide hun;clear hun;by_cases h1:i<a.length
  ·have d1:=dl_ (i:Int) (a.length:Int) (by omega)
   by_cases h2:j<b.length
   ·have d2:=dl_ (j:Int) (b.length:Int) (by omega)
    obtain⟨x,hx⟩:=gx_ a i h1;obtain⟨y,hy⟩:=gx_ b j h2;have e1:a.drop i=x::a.drop (i+1):=by rw [List.drop_eq_getElem?_toList_append,hx];rfl
    have e2:b.drop j=y::b.drop (j+1):=by rw [List.drop_eq_getElem?_toList_append,hy];rfl
    obtain⟨ga,ea,gl,gc⟩:=HA.out.some (by omega);obtain⟨gb,eb,hl,hc⟩:=HB.out.some (by omega);subst ea eb;have xa:wr.cell? ⟨ga,i,none⟩=some (.int .i64 (x:Int)):=(hbel.cell (p:=⟨ga,i,none⟩) gl).trans (gc i x hx);have yb:wr.cell? ⟨gb,j,none⟩=some (.int .i64 (y:Int)):=(hbel.cell (p:=⟨gb,j,none⟩) hl).trans (hc j y hy);have wi:=wr_ (i:Int) (by omega) (by omega);have wj:=wr_ (j:Int) (by omega) (by omega);clear gc hc hbel;rcases Nat.lt_trichotomy x y with hxy | hxy | hxy
    ·have c1:=dl_ (x:Int) (y:Int) (by omega)
     go_wp2_with fail
     go_region
     go_wp2;go_roundg (a.length+b.length-(i+1)-j)
     case measure=>omega
     case rel=>exact⟨i+1,j,by go_num,rfl,by omega,by omega,by omega,by rw [HUN.out,e1,e2,Pure.meet_lt hxy],HBL.out.drew⟩
    ·subst hxy
     have c1:=df_ (x:Int) (x:Int) (by omega)
     go_wp2_with fail
     go_region
     go_wp2_with fail
     go_region
     go_wp2;go_ret;have he:Pure.meet a b=true:=by rw [HUN.out,e1,e2,Pure.meet_eq]
     rw [he];exact⟨rfl,HBL.out.drew.drew⟩
    ·have c1:=df_ (x:Int) (y:Int) (by omega)
     have c2:=dl_ (y:Int) (x:Int) (by omega)
     go_wp2_with fail
     go_region
     go_wp2_with fail
     go_region
     go_wp2;go_roundg (a.length+b.length-i-(j+1))
     case measure=>omega
     case rel=>exact⟨i,j+1,rfl,by go_num,by omega,by omega,by omega,by rw [HUN.out,e1,e2,Pure.meet_gt hxy],HBL.out.drew.drew⟩
   ·have d2:=df_ (j:Int) (b.length:Int) (by omega)
    clear hbel;go_wp2;go_ret;have he:Pure.meet a b=false:=by rw [HUN.out,show b.drop j=[] from List.drop_eq_nil_of_le (by omega),Pure.meet_nil']
    rw [he];exact⟨rfl,HBL.out⟩
  ·have d1:=df_ (i:Int) (a.length:Int) (by omega)
   clear hbel;go_wp2;go_ret;have he:Pure.meet a b=false:=by rw [HUN.out,show a.drop i=[] from List.drop_eq_nil_of_le (by omega),Pure.meet_nil]
   rw [he];exact⟨rfl,HBL.out⟩
theorem same_any (va vb:Value) (a b:List Nat) (w:World) (ha:Nats w va a) (hb:Nats w vb b) (la:a.length≤1000000) (lb:b.length≤1000000) :
  Calls Tryz.prog 143 #[va,vb] w (RetVal (.bool (decide (a=b))) w):=by
 obtain⟨aa,ca,rfl,a1,a2,a3⟩:=ha.form
 obtain⟨ab,cb,rfl,b1,b2,b3⟩:=hb.form
 have HA:=hide ha
 have HB:=hide hb
 clear ha hb
 go_enter Tryz.func143,Tryz.ntmps143
 by_cases hl:a.length=b.length
 ·have d0:((a.length:Int) == (b.length:Int))=true:=by simp;omega
  go_wp2_with fail
  go_loopg [14] a.length (fun gk iv wr=>∃(i:Nat),iv=.int .i64 i∧i≤a.length∧gk=a.length-i∧a.take i=b.take i∧Below w.heap.size w wr)
  case atStart=>exact⟨0,rfl,Nat.zero_le _,rfl,rfl,Below.refl _ _⟩
  case round=>
   obtain⟨i,rfl,hia,rfl,htk,hbel⟩:=hrel;have HBL:=hide hbel;have HT:=hide htk;clear htk;by_cases h1:i<a.length
   ·have d1:=dl_ (i:Int) (a.length:Int) (by omega)
    obtain⟨x,hx⟩:=gx_ a i h1;obtain⟨y,hy⟩:=gx_ b i (by omega);obtain⟨ga,ea,gl,gc⟩:=HA.out.some (by omega);obtain⟨gb,eb,hl',hc⟩:=HB.out.some (by omega);subst ea eb;have xa:wr.cell? ⟨ga,i,none⟩=some (.int .i64 (x:Int)):=(hbel.cell (p:=⟨ga,i,none⟩) gl).trans (gc i x hx);have yb:wr.cell? ⟨gb,i,none⟩=some (.int .i64 (y:Int)):=(hbel.cell (p:=⟨gb,i,none⟩) hl').trans (hc i y hy);have wi:=wr_ (i:Int) (by omega) (by omega);have lb2:(i:Int)<(b.length:Int):=by omega
    clear gc hc hbel;by_cases hxy:x=y
    ·have c1:((x:Int) == (y:Int))=true:=by simp;omega
     go_wp2;go_roundg (a.length-(i+1))
     case measure=>omega
     case rel=>exact⟨i+1,by go_num,by omega,rfl,by rw [List.take_add_one,List.take_add_one,HT.out,hx,hy,hxy],HBL.out⟩
    ·have c1:((x:Int) == (y:Int))=false:=by simp;omega
     go_wp2;go_ret;have he:decide (a=b)=false:=decide_eq_false (fun e=>by subst e;rw [hx] at hy;cases hy;exact hxy rfl);rw [he];exact⟨rfl,HBL.out⟩
   ·have d1:=df_ (i:Int) (a.length:Int) (by omega)
    clear hbel;go_wp2;go_ret
    have he:decide (a=b)=true:=decide_eq_true (by
     have:=HT.out
     rwa [List.take_of_length_le (by omega),List.take_of_length_le (by omega)] at this)
    rw [he];exact⟨rfl,HBL.out⟩
 ·have d0:((a.length:Int) == (b.length:Int))=false:=by simp;omega
  go_wp2;go_ret;have he:decide (a=b)=false:=decide_eq_false (fun e=>hl (by rw [e]));rw [he];exact⟨rfl,Below.refl _ _⟩
def bitsL (T:Nat→Bool):List Value:=(List.range 256).map (fun n=>.bool (T n))
theorem bitsL_length (T:Nat→Bool):(bitsL T).length=256:=by simp [bitsL]
theorem bitsL_get (T:Nat→Bool) {n:Nat} (h:n<256):(bitsL T)[n]?=some (.bool (T n)):=by
 rw [bitsL,List.getElem?_map,List.getElem?_range h]
 rfl
theorem bitsL_set (T:Nat→Bool) {k:Nat} (b:Bool):(bitsL T).set k (.bool b)=bitsL (fun n=>if n=k then b else T n):=by
 apply List.ext_getElem?
 intro i
 rw [List.getElem?_set]
 by_cases hi:i<256
 ·rw [bitsL_get _ hi,bitsL_get _ hi,bitsL_length]
  by_cases hk:k=i
  ·subst hk
   simp [hi]
  ·have:¬i=k:=fun e=>hk e.symm
   simp [hk,this]
 ·rw [List.getElem?_eq_none (by rw [bitsL_length];omega),List.getElem?_eq_none (by rw [bitsL_length];omega),bitsL_length]
  split
  ·rw [if_neg (by omega)]
  ·rfl
theorem bitsL_one (T:Nat→Bool):∀v∈bitsL T,v.oneCell'=true:=by
 intro v hv
 simp only [bitsL,List.mem_map] at hv
 obtain⟨n,_,rfl⟩:=hv
 rfl
abbrev bitsV (T:Nat→Bool):Value:=.agg (bitsL T).toArray
theorem bits_info:(Tryz.prog.info? 233).map (fun i=>(i.zero,i.size))=some (some (.agg (List.replicate 256 (Value.bool false)).toArray),256):=by kernel_rfl
theorem bits_zero:(List.replicate 256 (Value.bool false))=bitsL Pure.noneB:=by
 apply List.ext_getElem?
 intro i
 by_cases hi:i<256
 ·rw [bitsL_get _ hi,List.getElem?_replicate_of_lt hi]
  rfl
 ·rw [List.getElem?_eq_none (by rw [List.length_replicate];omega),List.getElem?_eq_none (by rw [bitsL_length];omega)]
theorem bits_zeroV (w:World):(zeroValue 233).run Tryz.prog w=.ok (bitsV Pure.noneB) w:=by
 have:=(zero_of_info bits_info).1 w
 rw [bits_zero] at this
 exact this
theorem bits_size:(Tryz.prog.info? 233).map (·.size)=some 256:=(zero_of_info bits_info).2
theorem blk_setCells {g t:Nat}:∀(vs pre post:List Value) (W:World),Blk W g t (pre++post)→post.length=vs.length→Blk (W.setCells g pre.length vs) g t (pre++vs):=by
 intro vs
 induction vs with
 | nil=>
  intro pre post W h hl;have:post=[]:=List.eq_nil_of_length_eq_zero hl;subst this;exact h
 | cons v vs ih=>
  intro pre post W h hl
  cases post with
  | nil=>simp at hl
  | cons p post=>
   have h1:=blk_set h pre.length v
   have e:(pre++p::post).set pre.length v=(pre++[v])++post:=by
    rw [List.set_append_right _ _ lr_,Nat.sub_self];simp
   rw [e] at h1;have:=ih (pre++[v]) post _ h1 (by simpa using hl);show Blk ((W.setCell ⟨g,pre.length,none⟩ v).setCells g (pre.length+1) vs) g t _;rw [List.length_append,List.length_singleton] at this;simpa using this
theorem blk_stored {W:World} {g t:Nat} {xs:List Value} (vs:List Value) (h:Blk W g t xs) (hl:xs.length=vs.length):Blk (W.setCells g 0 vs) g t vs:=blk_setCells vs [] xs W h hl
theorem blk_setCells_other {g g' t:Nat} {xs:List Value}:∀(vs:List Value) (o:Nat) (W:World),Blk W g t xs→g≠g'→Blk (W.setCells g' o vs) g t xs:=by
 intro vs
 induction vs with
 | nil=>intro o W h _;exact h
 | cons v vs ih=>intro o W h hne;exact ih (o+1) _ (blk_other h hne o v) hne
theorem below_cells {B g:Nat} {a:World} (hg:B≤g):∀(vs:List Value) (o:Nat) (W:World),Below B a W→Below B a (W.setCells g o vs):=by
 intro vs
 induction vs with
 | nil=>intro o W h;exact h
 | cons v vs ih=>intro o W h;exact ih (o+1) _ (h.setCell hg v)
theorem blk_range {W:World} {g t:Nat} {xs:List Value} (h:Blk W g t xs):W.rangeAt g 0 xs:=fun j v hv=>by
 rw [Nat.zero_add]
 exact blk_cell h hv
theorem blk_there {W:World} {g t:Nat} {xs:List Value} (h:Blk W g t xs):W.there g 0 xs.length:=fun j hj=>by
 rw [Nat.zero_add]
 refine⟨?_,blk_frozen h j⟩
 rw [blk_cell h (List.getElem?_eq_getElem hj)]
 rfl
section
variable {W:World} {g:Nat} {T:Nat→Bool}
theorem bits_load (h:Blk W g 233 (bitsL T)):(Instr.loadAt 233 (.pointer (some ⟨g,0,none⟩))).run Tryz.prog W=.ok (.agg (bitsL T).toArray) W:=
 run_loadAt_mid W g 0 233 (bitsL T) _ (blk_range h) Tryz.underlying233 rfl (by rw [bitsL_length];exact bits_size)
theorem bits_loadVar (h:Blk W g 233 (bitsL T)):(loadVar 233 ⟨g,0,none⟩).run Tryz.prog W=.ok (.agg (bitsL T).toArray) W:=
 run_loadVar_mid W g 0 233 (bitsL T) _ (blk_range h) Tryz.underlying233 rfl (by rw [bitsL_length];exact bits_size)
theorem bits_store (h:Blk W g 233 (bitsL T)) (T':Nat→Bool):(Instr.storeAt 233 (.pointer (some ⟨g,0,none⟩)) (.agg (bitsL T').toArray)).run Tryz.prog W=.ok () (W.setCells g 0 (bitsL T')):=by
 have:=run_storeAt_mid (P:=Tryz.prog) W g 0 233 (bitsL T').toArray (by have:=blk_there h;rw [bitsL_length] at this;simpa [bitsL_length] using this) (by simp only [List.size_toArray,bitsL_length];exact bits_size) (all_oneCell_toArray (bitsL_one T'))
 simpa using this
theorem bits_stored (h:Blk W g 233 (bitsL T)) (T':Nat→Bool):Blk (W.setCells g 0 (bitsL T')) g 233 (bitsL T'):=blk_stored (bitsL T') h (by rw [bitsL_length,bitsL_length])
end
def midT (T U:Nat→Bool) (k:Nat):Nat→Bool:=fun n=>if n<k then U n else T n
theorem midT_zero (T U:Nat→Bool):midT T U 0=T:=by funext n;simp [midT]
theorem midT_end (T U:Nat→Bool):bitsL (midT T U 256)=bitsL U:=by
 apply List.ext_getElem?
 intro i
 by_cases hi:i<256
 ·rw [bitsL_get _ hi,bitsL_get _ hi]
  simp [midT,hi]
 ·rw [List.getElem?_eq_none (by rw [bitsL_length];omega),List.getElem?_eq_none (by rw [bitsL_length];omega)]
theorem midT_step (T U:Nat→Bool) (k:Nat):(bitsL (midT T U k)).set k (.bool (U k))=bitsL (midT T U (k+1)):=by
 rw [bitsL_set]
 congr 1
 funext n
 unfold midT
 by_cases h:n=k
 ·subst h
  simp
 ·by_cases h2:n<k
  ·simp [h,h2,Nat.lt_succ_of_lt h2]
  ·have:¬n<k+1:=by omega
   simp [h,h2,this]
theorem two_bits (w:World) (T U:Nat→Bool):Blk ((w.alloc (.cells (bitsL T).toArray 233)).alloc (.cells (bitsL U).toArray 233)) w.heap.size 233 (bitsL T)∧Blk ((w.alloc (.cells (bitsL T).toArray 233)).alloc (.cells (bitsL U).toArray 233)) (w.heap.size+1) 233 (bitsL U):=by
 have h1:=heap_alloc_new w (.cells (bitsL T).toArray 233)
 have h2:=heap_alloc_new (w.alloc (.cells (bitsL T).toArray 233)) (.cells (bitsL U).toArray 233)
 rw [World.size_alloc] at h2
 exact⟨blk_alloc h1 _,h2⟩
theorem with_any (T:Nat→Bool) (lo hi:Int) (w:World) :
  Calls Tryz.prog 174 #[bitsV T,.int .i64 lo,.int .i64 hi] w (RetVal (bitsV (Pure.wid T lo hi)) w):=by
 have zv:=bits_zeroV
 have TB:=hide (two_bits w T Pure.noneB)
 have B0:Hid (Below w.heap.size w ((w.alloc (.cells (bitsL T).toArray 233)).alloc (.cells (bitsL Pure.noneB).toArray 233))):=((Below.refl w.heap.size w).alloc lr_ _).alloc (by simp) _
 go_enter Tryz.func174,Tryz.ntmps174
 go_wp2_with fail
 clear zv
 go_loopg [8] 256 (fun gk kv wx=>∃k:Nat,k≤256∧kv=.int .i64 k∧gk=256-k∧Below w.heap.size w wx∧Blk wx w.heap.size 233 (bitsL (midT T (Pure.wid T lo hi) k))∧Blk wx (w.heap.size+1) 233 (bitsL Pure.noneB))
 case atStart=>exact⟨0,Nat.zero_le _,rfl,rfl,B0.out,by rw [midT_zero];exact TB.out.1,TB.out.2⟩
 case round=>
  clear B0 TB;obtain⟨k,hk,rfl,rfl,hb,h1,h2⟩:=hrel;have HB:=hide hb;have H1:=hide h1;have H2:=hide h2;clear hb h1 h2;by_cases hlt:k<256
  ·have d1:decide ((k:Int)<256)=true:=decide_eq_true (by omega)
   have ik0:=nz_ k;have ik1:(k:Int)<256:=by omega
   have wi:=wr_ (k:Int) (by omega) (by omega)
   have c1:wr.cell? ⟨w.heap.size,k,none⟩=some (.bool (T k)):=by
    have:=blk_cell H1.out (bitsL_get _ hlt);simpa [midT] using this
   have f1:=blk_frozen H1.out k
   have N1:Hid (Blk (wr.setCell ⟨w.heap.size,k,none⟩ (.bool (Pure.wid T lo hi k))) w.heap.size 233 (bitsL (midT T (Pure.wid T lo hi) (k+1)))):=by
    have:=blk_set H1.out k (.bool (Pure.wid T lo hi k));rw [midT_step] at this;exact this
   have N2:Hid (Blk (wr.setCell ⟨w.heap.size,k,none⟩ (.bool (Pure.wid T lo hi k))) (w.heap.size+1) 233 (bitsL Pure.noneB)):=blk_other H2.out (by omega) k _;have NB:Hid (Below w.heap.size w (wr.setCell ⟨w.heap.size,k,none⟩ (.bool (Pure.wid T lo hi k)))):=HB.out.setCell lr_ _;have hw:Pure.wid T lo hi k=(T k || (decide (lo≤(k:Int)) && decide ((k:Int)≤hi))):=rfl;generalize Pure.wid T lo hi k=u at *;generalize T k=t at *;have q:∀b1 b2:Bool,decide (lo≤(k:Int))=b1→decide ((k:Int)≤hi)=b2→u=(t || (b1 && b2)):=fun b1 b2 e1 e2=>by rw [hw,e1,e2]
   clear hw
   cases t with
   | true=>
    have e:=q _ _ rfl rfl;simp only [Bool.true_or] at e;subst e;clear q;go_wp2;go_roundg (256-(k+1))
    case measure=>omega
    case rel=>exact⟨k+1,by omega,by go_num,rfl,NB.out,N1.out,N2.out⟩
   | false=>
    cases e1:decide (lo≤(k:Int)) with
    | false=>
     have e:=q _ _ e1 rfl;simp only [Bool.false_and,Bool.false_or] at e;subst e;clear q;go_wp2;go_roundg (256-(k+1))
     case measure=>omega
     case rel=>exact⟨k+1,by omega,by go_num,rfl,NB.out,N1.out,N2.out⟩
    | true=>
     cases e2:decide ((k:Int)≤hi) with
     | false=>
      have e:=q _ _ e1 e2;simp only [Bool.and_false,Bool.false_or] at e;subst e;clear q;go_wp2;go_roundg (256-(k+1))
      case measure=>omega
      case rel=>exact⟨k+1,by omega,by go_num,rfl,NB.out,N1.out,N2.out⟩
     | true=>
      have e:=q _ _ e1 e2;simp only [Bool.and_true,Bool.false_or] at e;subst e;clear q;go_wp2;go_roundg (256-(k+1))
      case measure=>omega
      case rel=>exact⟨k+1,by omega,by go_num,rfl,NB.out,N1.out,N2.out⟩
  ·have d1:decide ((k:Int)<256)=false:=decide_eq_false (by omega)
   have e:k=256:=by omega
   subst e
   go_wp2_with (first | (refine wpList_load_mid rfl 233 (.tmp 3) rfl w.heap.size 0 rfl (bitsL (midT T (Pure.wid T lo hi) 256)) _ (blk_range H1.out) Tryz.underlying233 rfl (by rw [bitsL_length];exact bits_size) ?_) | (refine wpList_store_mid rfl 233 (.tmp 6) (.tmp 27) rfl (w.heap.size+1) 0 (bitsL (midT T (Pure.wid T lo hi) 256)).toArray rfl rfl (by have:=blk_there H2.out;rw [bitsL_length] at this;simpa [bitsL_length] using this) (by simp only [List.size_toArray,bitsL_length];exact bits_size) (all_oneCell_toArray (bitsL_one _)) ?_))
   have N2:=bits_stored H2.out (midT T (Pure.wid T lo hi) 256);have NB:=below_cells (a:=w) (B:=w.heap.size) (g:=w.heap.size+1) (by omega) (bitsL (midT T (Pure.wid T lo hi) 256)) 0 wr HB.out;have ld:=bits_loadVar N2;refine bodyPost_ret (v:=.agg (bitsL (midT T (Pure.wid T lo hi) 256)).toArray) ?_ rfl ⟨by rw [midT_end],NB⟩;simp [results,Tryz.results174,Act.put,asAddr,ld]
theorem allBut_any (T:Nat→Bool) (w:World) :
  Calls Tryz.prog 170 #[bitsV T] w (RetVal (bitsV (Pure.notB T)) w):=by
 have zv:=bits_zeroV
 have TB:=hide (two_bits w T Pure.noneB)
 have B0:Hid (Below w.heap.size w ((w.alloc (.cells (bitsL T).toArray 233)).alloc (.cells (bitsL Pure.noneB).toArray 233))):=((Below.refl w.heap.size w).alloc lr_ _).alloc (by simp) _
 go_enter Tryz.func170,Tryz.ntmps170
 go_wp2_with fail
 clear zv
 go_loopg [4] 256 (fun gk kv wx=>∃k:Nat,k≤256∧kv=.int .i64 k∧gk=256-k∧Below w.heap.size w wx∧Blk wx w.heap.size 233 (bitsL (midT T (Pure.notB T) k))∧Blk wx (w.heap.size+1) 233 (bitsL Pure.noneB))
 case atStart=>exact⟨0,Nat.zero_le _,rfl,rfl,B0.out,by rw [midT_zero];exact TB.out.1,TB.out.2⟩
 case round=>
  clear B0 TB;obtain⟨k,hk,rfl,rfl,hb,h1,h2⟩:=hrel;have HB:=hide hb;have H1:=hide h1;have H2:=hide h2;clear hb h1 h2;by_cases hlt:k<256
  ·have d1:decide ((k:Int)<256)=true:=decide_eq_true (by omega)
   have ik0:=nz_ k;have ik1:(k:Int)<256:=by omega
   have wi:=wr_ (k:Int) (by omega) (by omega)
   have c1:wr.cell? ⟨w.heap.size,k,none⟩=some (.bool (T k)):=by
    have:=blk_cell H1.out (bitsL_get _ hlt);simpa [midT] using this
   have f1:=blk_frozen H1.out k
   have N1:Hid (Blk (wr.setCell ⟨w.heap.size,k,none⟩ (.bool (!T k))) w.heap.size 233 (bitsL (midT T (Pure.notB T) (k+1)))):=by
    have:=blk_set H1.out k (.bool (Pure.notB T k));rw [midT_step] at this;exact this
   have N2:Hid (Blk (wr.setCell ⟨w.heap.size,k,none⟩ (.bool (!T k))) (w.heap.size+1) 233 (bitsL Pure.noneB)):=blk_other H2.out (by omega) k _;have NB:Hid (Below w.heap.size w (wr.setCell ⟨w.heap.size,k,none⟩ (.bool (!T k)))):=HB.out.setCell lr_ _;go_wp2;go_roundg (256-(k+1))
   case measure=>omega
   case rel=>exact⟨k+1,by omega,by go_num,rfl,NB.out,N1.out,N2.out⟩
  ·have d1:decide ((k:Int)<256)=false:=decide_eq_false (by omega)
   have e:k=256:=by omega
   subst e
   go_wp2_with (first | (refine wpList_load_mid rfl 233 (.tmp 1) rfl w.heap.size 0 rfl (bitsL (midT T (Pure.notB T) 256)) _ (blk_range H1.out) Tryz.underlying233 rfl (by rw [bitsL_length];exact bits_size) ?_) | (refine wpList_store_mid rfl 233 (.tmp 2) (.tmp 14) rfl (w.heap.size+1) 0 (bitsL (midT T (Pure.notB T) 256)).toArray rfl rfl (by have:=blk_there H2.out;rw [bitsL_length] at this;simpa [bitsL_length] using this) (by simp only [List.size_toArray,bitsL_length];exact bits_size) (all_oneCell_toArray (bitsL_one _)) ?_))
   have N2:=bits_stored H2.out (midT T (Pure.notB T) 256);have NB:=below_cells (a:=w) (B:=w.heap.size) (g:=w.heap.size+1) (by omega) (bitsL (midT T (Pure.notB T) 256)) 0 wr HB.out;have ld:=bits_loadVar N2;refine bodyPost_ret (v:=.agg (bitsL (midT T (Pure.notB T) 256)).toArray) ?_ rfl ⟨by rw [midT_end],NB⟩;simp [results,Tryz.results170,Act.put,asAddr,ld]
theorem wid_only (b:Int):Pure.wid Pure.noneB b b=Pure.onlyB b:=by
 funext n
 unfold Pure.wid Pure.noneB Pure.onlyB
 by_cases h:(n:Int)=b
 ·simp [h]
 ·have:¬(b≤(n:Int)∧(n:Int)≤b):=by omega
  simp only [Bool.false_or];rw [Bool.eq_iff_iff];simp only [Bool.and_eq_true,decide_eq_true_eq];exact⟨fun k=>absurd k this,fun k=>absurd k h⟩
theorem only_any (b:Int) (w:World) :
  Calls Tryz.prog 171 #[.int .i64 b] w (RetVal (bitsV (Pure.onlyB b)) w):=by
 have zv:=bits_zeroV
 have KB:Hid (Blk (w.alloc (.cells (bitsL Pure.noneB).toArray 233)) w.heap.size 233 (bitsL Pure.noneB)):=heap_alloc_new w _
 have B0:Hid (Below w.heap.size w (w.alloc (.cells (bitsL Pure.noneB).toArray 233))):=(Below.refl w.heap.size w).alloc lr_ _
 go_enter Tryz.func171,Tryz.ntmps171
 go_wp2_with fail
 clear zv
 refine (with_any Pure.noneB b b _).mono ?_
 rintro e w1 ⟨rfl,hb1⟩
 rw [wid_only]
 have K1:=hide (blk_below KB.out hb1 (blk_lt KB.out))
 have B1:=hide (bel0 B0.out hb1)
 clear hb1 KB B0
 go_wp2_with (refine wpList_store_mid rfl 233 (.tmp 2) (.tmp 6) rfl w.heap.size 0 (bitsL (Pure.onlyB b)).toArray rfl rfl (by have:=blk_there K1.out;rw [bitsL_length] at this;simpa [bitsL_length] using this) (by simp only [List.size_toArray,bitsL_length];exact bits_size) (all_oneCell_toArray (bitsL_one _)) ?_)
 have N2:=bits_stored K1.out (Pure.onlyB b)
 have NB:=below_cells (a:=w) (B:=w.heap.size) (g:=w.heap.size) lr_ (bitsL (Pure.onlyB b)) 0 w1 B1.out
 have ld:=bits_loadVar N2
 refine bodyPost_ret (v:=.agg (bitsL (Pure.onlyB b)).toArray) ?_ rfl ⟨rfl,NB⟩
 simp [results,Tryz.results171,Act.put,asAddr,ld]
theorem beginsAtom_any (b:Int) (w:World) :
  Calls Tryz.prog 155 #[.int .i64 b] w (RetVal (.bool (decide (Pure.BegAtom b))) w):=by
 by_cases h:Pure.BegAtom b
 ·have hb:=h
  unfold Pure.BegAtom at hb;have n1:(b == 41)=false:=by simp;omega
  have n2:(b == 93)=false:=by simp;omega
  have n3:(b == 42)=false:=by simp;omega
  have n4:(b == 43)=false:=by simp;omega
  have n5:(b == 63)=false:=by simp;omega
  have n6:(b == 124)=false:=by simp;omega
  have n7:(b == 32)=false:=by simp;omega
  have n8:(b == 10)=false:=by simp;omega
  have n9:(b == -1)=false:=by simp;omega
  rw [decide_eq_true h];clear hb h;go_enter Tryz.func155,Tryz.ntmps155;go_wp2;go_ret;exact⟨rfl,Below.refl _ _⟩
 ·rw [decide_eq_false h]
  unfold Pure.BegAtom at h;have h':b=41∨b=93∨b=42∨b=43∨b=63∨b=124∨b=32∨b=10∨b=-1:=by omega
  clear h;rcases h' with rfl | rfl | rfl | rfl | rfl | rfl | rfl | rfl | rfl
  all_goals
   go_enter Tryz.func155,Tryz.ntmps155;go_wp2;go_ret;exact⟨rfl,Below.refl _ _⟩
end Go.Proofs.YtmccnmgaoppogaaGreat
