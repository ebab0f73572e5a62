/-
 The walks: the code of a mode. (code)
 The walks: the code of all modes. (code)
 The walks: Compile: what it holds while it goes. (weir)
 The walks: Compile. (weir)
 Plain mathematics: a text is read in one way alone.
-/
import Derived.Test.YtmccnmgaoppogaaGreatLA
import Derived.Test.YtmccnmgaoppogaaGreatJB
import Derived.Test.YtmccnmgaoppogaaGreatJ16
import Derived.Test.YtmccnmgaoppogaaGreatWC
namespace Go.Proofs.YtmccnmgaoppogaaGreat
set_option maxRecDepth 100000
set_option maxHeartbeats 8000000
open Go.RowKit
section
variable {B gw:Nat} {vc:Value} {code:List Pure.Ins} {ob ob':Option Nat} {w w' W:World}
theorem Lk.far (h:Lk gw vc.ownBlock ob' w w') (hw:Wc B gw vc code w) {B' t size n:Nat} {v:Value} {xs:List Value} (hn:w.ownsRow B' t size v n xs) (h1:t≠150) (h2:t≠61):w'.ownsRow B' t size v n xs:=by
 refine h.rows hn (fun k e=>?_)
 rcases hn.2 with ⟨e0,_⟩ | ⟨g,cap,cur,e0,_,h5,_⟩
 ·rw [e0] at e;cases e
 ·rw [e0] at e
  cases e
  refine⟨?_,fun e2=>?_⟩
  ·rintro rfl
   have:=hw.b;unfold Blk at this;rw [this] at h5;cases h5;exact h1 rfl
  ·rcases hw.own.2 with ⟨e3,_⟩ | ⟨g',_,_,e3,_,h6,_⟩
   ·rw [e3] at e2;cases e2
   ·rw [e3] at e2
    cases e2
    rw [h5] at h6;cases h6;exact h2 rfl
theorem Lk.farB (h:Lk gw vc.ownBlock ob' w w') (hw:Wc B gw vc code w) {g t:Nat} {xs:List Value} (hb:Blk w g t xs) (h1:t≠150) (h2:t≠61):Blk w' g t xs:=h.blk hb (blk_ne2 hb hw.b h1) (hw.ne hb h2)
theorem Lk.kdm (h:Lk gw vc.ownBlock ob' w w') (hw:Wc B gw vc code w) {B':Nat} {v:Value} {K:List Pure.Kd} (hk:Kdm B' w v K):Kdm B' w' v K:=⟨h.far hw hk.own (by decide) (by decide),hk.len⟩
theorem Lk.grown {g:Nat} (h:Lk gw ob ob' w W) (hg:W.grownBy w' (some g)) (hle:w.heap.size≤g):Lk gw ob ob' w w':=by
 refine⟨hg.os.trans h.os,hg.tape.trans h.tape,hg.output.trans h.output,Nat.le_trans h.size hg.size,fun k hk h1 h2=>?_,h.row⟩
 rw [hg.block k (Nat.lt_of_lt_of_le hk h.size) (fun e=>by have:=Option.some.inj e;omega)]
 exact h.block k hk h1 h2
theorem Wc.apart {g t:Nat} {xs:List Value} (h:Wc B gw vc code W) (hb:Blk W g t xs) (h1:t≠150) (h2:t≠61) (hg:W.grownBy w' (some g)):Wc B gw vc code w':=
 ⟨blk_grown h.b hg (fun e=>blk_ne2 hb h.b h1 (Option.some.inj e).symm),row_apart h.own hb h2 hg,h.lo⟩
end
namespace Pure
def laidTo (code:List Ins) (all:List Kd) (j:Nat):List Ins × List Nat:=((all.drop 1).take (j-1)).foldl layKd (code,[0])
theorem laidTo_one (code:List Ins) (all:List Kd):laidTo code all 1=(code,[0]):=rfl
theorem laidTo_next (code:List Ins) (all:List Kd) {j:Nat} {k:Kd} (hj:1≤j) (hk:all[j]?=some k):laidTo code all (j+1)=((laidTo code all j).1++kindIns k,(laidTo code all j).2++[(laidTo code all j).1.length]):=by
 unfold laidTo
 obtain⟨i,rfl⟩:∃i,j=i+1:=⟨j-1,by omega⟩
 rw [Nat.add_sub_cancel,Nat.add_sub_cancel,List.take_add_one,List.getElem?_drop,Nat.add_comm 1 i,hk,List.foldl_append]
 rfl
theorem laidTo_len (code:List Ins) (all:List Kd) {j:Nat} (hj:1≤j) (hl:j≤all.length):(laidTo code all j).2.length=j∧code.length+(j-1)≤(laidTo code all j).1.length∧(laidTo code all j).1.length≤code.length+259*j:=by
 unfold laidTo
 rw [layKd_all]
 have h2:=flat_kinds_len ((all.drop 1).take (j-1))
 have h3:((all.drop 1).take (j-1)).length=j-1:=by rw [List.length_take,List.length_drop];omega
 simp only [List.length_append,startsOf_len,h3,List.length_cons,List.length_nil]
 rw [h3] at h2
 omega
theorem laidTo_all (code:List Ins) (all:List Kd) (h:¬all.length≤1):(laidTo code all all.length).1.take code.length++((laidTo code all all.length).1.drop code.length).map (linkI (laidTo code all all.length).2)=layMode code all:=by
 have e:laidTo code all all.length=(all.drop 1).foldl layKd (code,[0]):=by
  unfold laidTo;rw [List.take_of_length_le (by rw [List.length_drop];omega)]
 unfold layMode
 rw [if_neg h,e,layKd_all]
 simp
theorem laidTo_ins (code:List Ins) (all:List Kd) (hlt:∀k∈all,∀b,k.longer.getD b 0<all.length) (i:Nat) (x:Ins) (hi:code.length≤i) (hx:(laidTo code all all.length).1[i]?=some x) (ho:x.op=3):∃t:Nat,x.to=(t:Int)∧t<all.length:=by
 unfold laidTo at hx
 rw [layKd_all,List.getElem?_append_right hi] at hx
 obtain⟨k,hk,hx⟩:=List.mem_flatMap.1 (List.mem_of_getElem? hx)
 have hk:k∈all:=List.mem_of_mem_drop (List.mem_of_mem_take hk)
 obtain⟨i',hi'⟩:=List.getElem?_of_mem hx
 rcases kind_shape k i' x hi' with ⟨e,_⟩ | e | e | ⟨⟨a,b,_,_,e,_⟩,_⟩
 ·subst e;cases ho
 ·subst e;cases ho
 ·subst e;cases ho
 ·subst e;exact⟨k.longer.getD a 0,rfl,hlt k hk a⟩
theorem set_at_end (a:List Nat) (n x:Nat) (h:a.length<n):(a++List.replicate (n-a.length) 0).set a.length x=(a++[x])++List.replicate (n-(a++[x]).length) 0:=by
 obtain⟨m,hm⟩:∃m,n-a.length=m+1:=⟨n-a.length-1,by omega⟩
 rw [hm,List.replicate_succ,List.set_append_right _ _ lr_,Nat.sub_self,List.set_cons_zero,List.length_append,show n-(a.length+[x].length)=m by simp;omega]
 simp
end Pure
theorem nats_blk {W:World} {g:Nat} {l:List Nat} (h:Blk W g 3 (natCells l)) (hl:l.length≤100000):Nats W (.slice (some ⟨g,0,none⟩) l.length l.length) l:=by
 unfold Nats
 refine⟨by simp [natCells],.inr ⟨g,l.length,(natCells l).toArray,rfl,Nat.zero_le _,h,lr_,by unfold maxLen;omega,by simp [natCells_length],?_⟩⟩
 rw [Nat.mul_one,List.take_of_length_le (by rw [natCells_length];exact lr_)]
structure Ms (B Bk gw gs:Nat) (w:World) (ob:Option Nat) (vk:Value) (all:List Pure.Kd) (vc:Value) (q:List Pure.Ins × List Nat) (W:World):Prop where
 wc:Wc B gw vc q.1 W
 lk:Lk gw ob vc.ownBlock w W
 k:Kdm Bk W vk all
 st:Blk W gs 3 (natCells (q.2++List.replicate (all.length-q.2.length) 0))
section
variable {B Bk gw gs:Nat} {w:World} {ob:Option Nat} {vk:Value} {all:List Pure.Kd} {vc vc':Value} {q:List Pure.Ins × List Nat} {W W':World}
theorem Ms.mark (h:Ms B Bk gw gs w ob vk all vc q W) {j:Nat} (hj:q.2.length=j) (hq:j<all.length) (hs:w.heap.size≤gs):Wc B gw vc q.1 (W.setCell ⟨gs,j,none⟩ (.int .i64 (q.1.length:Int)))∧Lk gw ob vc.ownBlock w (W.setCell ⟨gs,j,none⟩ (.int .i64 (q.1.length:Int)))∧Kdm Bk (W.setCell ⟨gs,j,none⟩ (.int .i64 (q.1.length:Int))) vk all∧Blk (W.setCell ⟨gs,j,none⟩ (.int .i64 (q.1.length:Int))) gs 3 (natCells ((q.2++[q.1.length])++List.replicate (all.length-(q.2++[q.1.length]).length) 0)):=by
 subst hj
 have hg:=Lib.grownBy_setCell W gs q.2.length (.int .i64 (q.1.length:Int))
 refine⟨h.wc.apart h.st (by decide) (by decide) hg,h.lk.grown hg hs,⟨row_apart h.k.own h.st (by decide) hg,h.k.len⟩,?_⟩
 have:=blk_set h.st q.2.length (.int .i64 (q.1.length:Int))
 rw [←Pure.set_at_end _ _ _ hq]
 have e:natCells ((q.2++List.replicate (all.length-q.2.length) 0).set q.2.length q.1.length)=(natCells (q.2++List.replicate (all.length-q.2.length) 0)).set q.2.length (.int .i64 (q.1.length:Int)):=by
  unfold natCells;rw [List.map_set]
 rw [e]
 exact this
end
theorem cmode_any (B Bk gw:Nat) (vc vk:Value) (code:List Pure.Ins) (all:List Pure.Kd) (w:World) (h:Wc B gw vc code w) (hk:Kdm Bk w vk all) (hl:code.length≤500000) (hn:all.length≤1000) (hlt:∀k∈all,∀b,k.longer.getD b 0<all.length) :
  Calls Tryz.prog 57 #[.pointer (some ⟨gw,0,none⟩),vk] w (fun e w'=>e=.returned (.tuple #[])∧RetLy B gw vc (Pure.layMode code all) w w'):=by
 obtain⟨ac,cc,rfl,_,_⟩:=own_fm h.own
 obtain⟨ak,ck,rfl,_,_⟩:=own_fm hk.own
 have c0:=bc_ 0 h.b rfl
 have H0:=hide h
 have HK:=hide hk
 have HLT:=hide hlt
 clear h hk hlt
 go_enter Tryz.func57,Tryz.ntmps57
 by_cases hz:all.length≤1
 ·have d1:decide ((all.length:Int)≤1)=true:=decide_eq_true (by omega)
  have FC:Hid (Pure.layMode code all=code++[⟨5,0,0,0⟩]):=by show _=_;unfold Pure.layMode;rw [if_pos hz]
  go_wp2_with fail
  refine (lay_any B gw _ code ⟨5,0,0,0⟩ w H0.out (by omega)).mono ?_
  rintro e w2 ⟨rfl,vY,lk,wc⟩;have FIN:Hid (RetLy B gw (.slice ac code.length cc) (Pure.layMode code all) w w2):=⟨vY,lk,by rw [FC.out];exact wc⟩;clear lk wc;go_wp2;exact bodyPost_ret (results_none (by rfl) _ _ _) rfl ⟨rfl,FIN.out⟩
 ·have d1:decide ((all.length:Int)≤1)=false:=decide_eq_false (by omega)
  have hmk:=make_int all.length (by omega);have hb1:Below w.heap.size w (w.alloc (.cells (Array.replicate all.length (.int .i64 0)) 3)):=bn_ _
  have M0:Hid (Ms B Bk gw w.heap.size w (Value.slice ac code.length cc).ownBlock (.slice ak all.length ck) all (.slice ac code.length cc) (Pure.laidTo code all 1) (w.alloc (.cells (Array.replicate all.length (.int .i64 0)) 3))):=by
   refine⟨H0.out.below hb1,.below hb1,HK.out.below hb1,?_⟩;rw [Pure.laidTo_one];have:=heap_alloc_new w (.cells (Array.replicate all.length (.int .i64 0)) 3)
   have e:(natCells ([0]++List.replicate (all.length - [0].length) 0)).toArray=Array.replicate all.length (.int .i64 0):=by
    obtain⟨m,hm⟩:∃m,all.length=m+1:=⟨all.length-1,by omega⟩;rw [hm];simp [natCells,←List.replicate_succ]
   unfold Blk;rw [e];exact this
  clear hb1
  go_wp2_with fail
  clear hmk c0;generalize w.alloc (.cells (Array.replicate all.length (.int .i64 0)) 3)=W1 at *
  go_loopg [6] (all.length-1) (fun gm nv wx=>∃(j:Nat) (vX:Value),1≤j∧j≤all.length∧gm=all.length-j∧nv=.int .i64 j∧Ms B Bk gw w.heap.size w (Value.slice ac code.length cc).ownBlock (.slice ak all.length ck) all vX (Pure.laidTo code all j) wx)
  case atStart=>exact⟨1,_,lr_,by omega,rfl,rfl,M0.out⟩
  case round=>
   clear M0;obtain⟨j,vX,j1,jl,rfl,rfl,hM⟩:=hrel;have LL:=hide (Pure.laidTo_len code all j1 jl);by_cases hj:j<all.length
   ·have d2:=dl_ (j:Int) (all.length:Int) (by omega)
    have wi:=wr_ (j:Int) (by omega) (by omega);have ij0:=nz_ j;have ij1:(j:Int)<(all.length:Int):=by omega
    obtain⟨k,hk⟩:=gx_ all j hj;have NX:=hide (Pure.laidTo_next code all j1 hk);generalize Pure.laidTo code all j=q at *;obtain⟨aX,cX,rfl,_,_⟩:=own_fm hM.wc.own;have c0:=bc_ 0 hM.wc.b rfl;obtain⟨z,hz'⟩:∃z,(natCells (q.2++List.replicate (all.length-q.2.length) 0))[j]?=some z:=⟨_,List.getElem?_eq_getElem (by have:=LL.out.1;rw [natCells_length,List.length_append,List.length_replicate];omega)⟩;have s1:=blk_cell hM.st hz';have s2:=blk_frozen hM.st j;obtain⟨wc2,lk2,k2,st2⟩:=hM.mark LL.out.1 hj lr_;have WC2:=hide wc2;have LK2:=hide lk2;have K2:=hide k2;have ST2:=hide st2;obtain⟨gk,ck',ek,_,_⟩:=own_some k2.own (by omega);cases ek;have HRG:=hide (k2.get hk).2;have kl:k.longer.length=256:=k2.len k (List.mem_of_getElem? hk);clear hM wc2 lk2 k2 st2 hz' hk;go_upto_region 8 with (fail);clear s1 s2 c0;generalize wr.setCell ⟨w.heap.size,j,none⟩ (.int .i64 (q.1.length:Int))=W2 at *;have sl:(kdC k).length=257:=kdC_length kl
    go_wp2_with (refine wpList_load_mid rfl 148 (.tmp 38) rfl gk (j*257) rfl _ _ HRG.out Tryz.underlying148 rfl (by rw [sl];exact kd_size) ?_)
    refine (kind_any B gw _ q.1 k W2 WC2.out (by have:=LL.out;omega) kl).mono ?_
    rintro e w3 ⟨rfl,vY,lk,wc⟩
    have M3:Hid (Ms B Bk gw w.heap.size w (Value.slice ac code.length cc).ownBlock (.slice (some ⟨gk,0,none⟩) all.length ck) all vY (Pure.laidTo code all (j+1)) w3):=by
     refine⟨?_,LK2.out.trans lk,lk.kdm WC2.out K2.out,?_⟩
     ·rw [NX.out];exact wc
     ·rw [NX.out];exact lk.farB WC2.out ST2.out (by decide) (by decide)
    clear lk wc WC2 LK2 K2 ST2 HRG NX LL;go_wp2;go_roundg (all.length-(j+1))
    case measure=>omega
    case rel=>exact⟨j+1,vY,by omega,by omega,rfl,by go_num,M3.out⟩
   ·have d2:=df_ (j:Int) (all.length:Int) (by omega)
    have ej:j=all.length:=by omega
    have FC:=hide (Pure.laidTo_all code all hz);have IN:=hide (Pure.laidTo_ins code all HLT.out);rw [ej] at hM LL;generalize Pure.laidTo code all all.length=q at *
    have NS:Hid (Nats wr (.slice (some ⟨w.heap.size,0,none⟩) all.length all.length) q.2):=by
     have h1:=hM.st;rw [LL.out.1,Nat.sub_self,List.replicate_zero,List.append_nil] at h1;have:=nats_blk h1 (by have:=LL.out.1;omega);rw [LL.out.1] at this;exact this
    have HM:=hide hM;clear hM
    go_wp2_with fail
    refine (link_any B gw code.length vX (.slice (some ⟨w.heap.size,0,none⟩) all.length all.length) q.1 q.2 wr HM.out.wc NS.out (by have:=LL.out;omega) (by have:=LL.out;omega) (by have:=LL.out;omega) (by have:=LL.out;omega) (fun i x h1 h2 h3=>by rw [LL.out.1];exact IN.out i x h1 h2 h3)).mono ?_
    rintro e w3 ⟨rfl,vY,lk,wc⟩;have FIN:Hid (RetLy B gw (.slice ac code.length cc) (Pure.layMode code all) w w3):=⟨vY,HM.out.lk.trans lk,by rw [←FC.out];exact wc⟩;clear lk wc HM;go_wp2
    go_end0
    exact⟨rfl,FIN.out⟩
def Kdl (B:Nat) (W:World) (v:Value) (KK:List (List Pure.Kd)):Prop:=∃vs:List Value,W.ownsRow B 88 1 v vs.length vs∧vs.length=KK.length∧∀(j:Nat) (u:Value) (K:List Pure.Kd),vs[j]?=some u→KK[j]?=some K→Kdm B W u K∧∃a n c,u=.slice a n c
theorem Kdl.below {B:Nat} {W W':World} {v:Value} {KK:List (List Pure.Kd)} (h:Kdl B W v KK) (hb:Below W.heap.size W W'):Kdl B W' v KK:=by
 obtain⟨vs,h1,h2,h3⟩:=h
 exact⟨vs,own_below h1 hb lr_,h2,fun j u K a b=>⟨(h3 j u K a b).1.below hb,(h3 j u K a b).2⟩⟩
theorem Kdl.form {B:Nat} {W:World} {v:Value} {KK:List (List Pure.Kd)} (h:Kdl B W v KK):∃a c,v=.slice a KK.length c:=by
 obtain⟨vs,h1,h2,_⟩:=h
 obtain⟨a,c,e,_,_⟩:=own_fm h1
 exact⟨a,c,by rw [e,h2]⟩
theorem Kdl.get {B:Nat} {W:World} {a:Option Addr} {n c:Nat} {KK:List (List Pure.Kd)} (h:Kdl B W (.slice a n c) KK) {j:Nat} {K:List Pure.Kd} (hj:KK[j]?=some K):∃g ua un uc,a=some ⟨g,0,none⟩∧W.cell? ⟨g,j,none⟩=some (.slice ua un uc)∧Kdm B W (.slice ua un uc) K:=by
 obtain⟨vs,h1,h2,h3⟩:=h
 have hl:=(List.getElem?_eq_some_iff.1 hj).1
 obtain⟨g,cap,e,_,_⟩:=own_some h1 (by omega)
 cases e
 have hu:vs[j]?=some (vs[j]'(by omega)):=List.getElem?_eq_getElem (by omega)
 obtain⟨k1,ua,un,uc,k2⟩:=h3 j _ K hu hj
 rw [k2] at hu k1
 exact⟨g,ua,un,uc,rfl,own_cell h1 hu,k1⟩
theorem wpList_append_int1 {w:World} {ops:Array Oper} {rest:List Oper} {o:Oper} {a:Act} {Q:Exit→Act→World→Prop} (hgd:o.guard=none) (s x:Operand)
  (ho:o.op=.call { callee:=.builtin .append,args:=#[s,x],argTypes:=#[31,31] }) (base:Nat) (v:Value) (u:List Int) (q:Int) (gx:Nat) (hs:a.eval s=v) (hown:w.ownsRow base 3 1 v u.length (intCells u))
  (hx:a.eval x=.slice (some ⟨gx,0,none⟩) 1 1) (hb:Blk w gx 3 [.int .i64 q]) (hlen:u.length≤1000000) (hbase:base≤w.heap.size)
  (h:∀g cap w',w'.ownsRow base 3 1 (.slice (some ⟨g,0,none⟩) (u.length+1) cap) (u++[q]).length (intCells (u++[q]))→w.grownBy w' v.ownBlock→wpList Tryz.prog ops Q rest (a.put o.dst (.slice (some ⟨g,0,none⟩) (u.length+1) cap)) w'):wpList Tryz.prog ops Q (o::rest) a w:=by
 obtain⟨il,hil,hl0,hl1,hl2⟩:=info_parts int_info4
 refine wpList_append_lies _ hgd s x 31 ho base 3 il _ 1 8 Tryz.underlying31 hil hl0 hl1 hl2 rfl (by decide) v u.length (intCells u) hs hown ⟨gx,0,none⟩ 1 1 [.int .i64 q] hx rfl ?_ (fun z hz=>by simp at hz;rw [hz];rfl) (by decide) (by unfold maxLen;omega) (by omega) hbase _ rfl ?_
 ·intro j y hy
  have:=blk_cell hb hy;simpa [add_eq] using this
 ·intro g cap w' h1 h2 _ _
  refine h g cap w' ?_ h2;rw [List.length_append];have e:intCells (u++[q])=intCells u++[.int .i64 q]:=by simp [intCells]
  rw [e];exact h1
namespace Pure
def layS (q:List Int × List Ins) (m:List Kd):List Int × List Ins:=(q.1++[(q.2.length:Int)],layMode q.2 m)
def laidM (modes:List (List Kd)) (i:Nat):List Int × List Ins:=(modes.take i).foldl layS ([],[])
theorem laidM_next {modes:List (List Kd)} {i:Nat} {K:List Kd} (h:modes[i]?=some K):laidM modes (i+1)=((laidM modes i).1++[((laidM modes i).2.length:Int)],layMode (laidM modes i).2 K):=by
 unfold laidM
 rw [List.take_add_one,h,List.foldl_append]
 rfl
theorem laidM_all (modes:List (List Kd)):laidM modes modes.length=layAll modes:=by
 unfold laidM layAll
 rw [List.take_length]
 rfl
theorem laidM_len (modes:List (List Kd)) (h:∀m∈modes,m.length≤42):∀i,i≤modes.length→(laidM modes i).1.length=i∧(laidM modes i).2.length≤10619*i:=by
 intro i
 induction i with
 | zero=>intro _;exact⟨rfl,lr_⟩
 | succ i ih=>
  intro hi;have ih:=ih (by omega);have hk:modes[i]?=some (modes[i]'(by omega)):=List.getElem?_eq_getElem (by omega);rw [laidM_next hk,layMode_eq];have:=modeC_len (laidM modes i).2.length _ (h _ (List.getElem_mem (by omega:i<modes.length)));refine⟨by rw [List.length_append,ih.1];rfl,?_⟩;rw [List.length_append];omega
end Pure
structure Ly (w:World) (ve vc:Value) (q:List Int × List Pure.Ins) (W:World):Prop where
 be:Below w.heap.size w W
 wc:Wc w.heap.size w.heap.size vc q.2 W
 e:W.ownsRow w.heap.size 3 1 ve q.1.length (intCells q.1)
section
variable {w W W':World} {ve vc vc':Value} {q:List Int × List Pure.Ins}
theorem Ly.below (h:Ly w ve vc q W) (hb:Below W.heap.size W W'):Ly w ve vc q W':=⟨bel0 h.be hb,h.wc.below hb,own_below h.e hb lr_⟩
theorem Ly.ent (h:Ly w ve vc q W) {x:Int} {v2:Value} (ho:W'.ownsRow w.heap.size 3 1 v2 (q.1++[x]).length (intCells (q.1++[x]))) (hg:W.grownBy W' ve.ownBlock):Ly w v2 vc (q.1++[x],q.2) W':=
 ⟨h.be.grown hg h.be.size (fun k e=>(World.ownsRow.lt h.e k e).1),⟨row_far h.e h.wc.b (by decide) hg,rows_apart h.wc.own h.e (by decide) hg,h.wc.lo⟩,ho⟩
theorem Lk.be {ob':Option Nat} (hl:Lk w.heap.size vc.ownBlock ob' W W') (h:Below w.heap.size w W) (hw:Wc w.heap.size w.heap.size vc q.2 W):Below w.heap.size w W':=by
 refine⟨hl.os.trans h.os,hl.tape.trans h.tape,hl.output.trans h.output,Nat.le_trans h.size hl.size,fun k hk=>?_⟩
 rw [hl.block k (Nat.lt_of_lt_of_le hk h.size) (by omega) (fun e=>by have:=(World.ownsRow.lt hw.own k e.symm).1;omega)]
 exact h.block k hk
theorem Ly.on (h:Ly w ve vc q W) (hl:Lk w.heap.size vc.ownBlock vc'.ownBlock W W') {code:List Pure.Ins} (hw:Wc w.heap.size w.heap.size vc' code W'):Ly w ve vc' (q.1,code) W':=
 ⟨hl.be h.be h.wc,hw,hl.far h.wc h.e (by decide) (by decide)⟩
end
def RetLay (q:List Int × List Pure.Ins) (w:World) (e:Ending) (w':World):Prop:=∃ve vc,e=.returned (.tuple #[ve,vc])∧Below w.heap.size w w'∧w'.ownsRow w.heap.size 3 1 ve q.1.length (intCells q.1)∧w'.ownsRow w.heap.size 61 4 vc q.2.length (insCells q.2)
theorem clay_any (Bk:Nat) (vm:Value) (modes:List (List Pure.Kd)) (w:World) (hk:Kdl Bk w vm modes) (hn:modes.length≤10) (hm:∀m∈modes,m.length≤42) (hlt:∀m∈modes,∀k∈m,∀b,k.longer.getD b 0<m.length) :
  Calls Tryz.prog 25 #[vm] w (RetLay (Pure.layAll modes) w):=by
 obtain⟨am,cm,rfl⟩:=hk.form
 obtain⟨il,hil,hl0,hl1,hl2⟩:=info_parts int_info4
 have hb0:Below w.heap.size w (w.alloc (.cells #[.slice none 0 0] 150)):=bn_ _
 obtain⟨W1,mk1,ow1,gr1⟩:=run_make_own (P:=Tryz.prog) (w.alloc (.cells #[.slice none 0 0] 150)) w.heap.size 31 3 il _ 1 Tryz.underlying31 hil hl0 hl1 .i64 .i64 modes.length (by rw [hl2];omega) (by unfold maxLen;omega) hb0.size
 have L0:Hid (Ly w (.slice (some ⟨(w.alloc (.cells #[.slice none 0 0] 150)).heap.size,0,none⟩) 0 modes.length) (.slice none 0 0) (Pure.laidM modes 0) W1):=by
  have b1:=grown_none gr1;have bw:Blk (w.alloc (.cells #[.slice none 0 0] 150)) w.heap.size 150 [.slice none 0 0]:=heap_alloc_new _ _;exact⟨bel0 hb0 b1,⟨blk_below bw b1 (blk_lt bw),own_nil _ _ _ _,lr_⟩,ow1⟩
 have HK:=hide hk
 have HM:=hide hm
 have HLT:=hide hlt
 clear hk hm hlt hb0 ow1 gr1
 go_enter Tryz.func25,Tryz.ntmps25
 go_wp2_with fail
 clear mk1
 rw [World.size_alloc] at L0
 go_loopg [5,7,14] modes.length (fun gk ev _ iv wx=>∃(i:Nat) (ve vc:Value),i≤modes.length∧gk=modes.length-i∧iv=.int .i64 i∧ve=ev∧Ly w ve vc (Pure.laidM modes i) wx)
 case atStart=>exact⟨0,_,_,Nat.zero_le _,rfl,rfl,rfl,L0.out⟩
 case round=>
  clear L0;obtain⟨i,ve,vc,hil2,rfl,rfl,rfl,hL⟩:=hrel;have LL:=hide (Pure.laidM_len modes HM.out i hil2);obtain⟨ac,cc,rfl,_,_⟩:=own_fm hL.wc.own;by_cases hi:i<modes.length
  ·have d1:=dl_ (i:Int) (modes.length:Int) (by omega)
   have wi:=wr_ (i:Int) (by omega) (by omega);have ii0:=nz_ i;have ii1:(i:Int)<(modes.length:Int):=by omega
   obtain⟨K,hKi⟩:=gx_ modes i hi;have NX:=hide (Pure.laidM_next hKi);generalize Pure.laidM modes i=q at *;obtain⟨gm,ua,un,uc,rfl,cu0,ku⟩:=HK.out.get hKi;have cu:wr.cell? ⟨gm,i,none⟩=some (.slice ua un uc):=(World.cell?_of_block (hL.be.block gm (World.block_lt_of_cell? w _ cu0))).trans cu0;have KU:=hide ku;have c0:=bc_ 0 hL.wc.b rfl;have hbA:Below wr.heap.size wr (wr.alloc (.cells #[.int .i64 (q.2.length:Int)] 3)):=bn_ _;have LA:=hide (hL.below hbA);have SZ:Hid (w.heap.size≤(wr.alloc (.cells #[.int .i64 (q.2.length:Int)] 3)).heap.size):=LA.out.be.size;have KM:=hide (HM.out K (List.mem_of_getElem? hKi));have KLT:=hide (HLT.out K (List.mem_of_getElem? hKi));have QL:q.1.length≤1000000:=by have:=LL.out;omega
   clear hL hbA ku cu0 hKi;go_upto_region 7 with (at_builtin;go_must (refine wpList_append_int1 rfl (.tmp 18) (.tmp 22) rfl w.heap.size _ q.1 (q.2.length:Int) wr.heap.size rfl LA.out.e rfl (heap_alloc_new _ _) QL SZ.out ?_);intro g8 c8 w8 hown8 hgrow8);have L8:=hide (LA.out.ent hown8 hgrow8);clear hown8 hgrow8 LA SZ cu c0
   go_wp2_with fail
   refine (cmode_any w.heap.size Bk w.heap.size _ (.slice ua un uc) q.2 K w8 L8.out.wc (KU.out.below L8.out.be) (by have:=LL.out;omega) (by have:=KM.out;omega) KLT.out).mono ?_
   rintro e w9 ⟨rfl,vY,lk,wc⟩;have L9:Hid (Ly w (.slice (some ⟨g8,0,none⟩) (q.1.length+1) c8) vY (Pure.laidM modes (i+1)) w9):=by rw [NX.out];exact L8.out.on lk wc
   clear lk wc L8;go_wp2;go_roundg (modes.length-(i+1))
   case measure=>omega
   case rel=>exact⟨i+1,_,vY,by omega,rfl,by go_num,rfl,L9.out⟩
  ·have d1:=df_ (i:Int) (modes.length:Int) (by omega)
   have ei:i=modes.length:=by omega
   rw [ei,Pure.laidM_all] at hL;generalize Pure.layAll modes=q at *;have c0:=bc_ 0 hL.wc.b rfl;obtain⟨ae,ce,rfl,_,_⟩:=own_fm hL.e;have HL:=hide hL;clear hL LL ei
   go_wp2_with fail
   go_quiet (fail)
   have FIN:Hid (RetLay q w (.returned (.tuple #[.slice ae q.1.length ce,.slice ac q.2.length cc])) (wr.drewN nq)):=by
    have L2:=HL.out.below (below_drewN (Below.refl _ _) nq);exact⟨_,_,rfl,L2.be,L2.e,L2.wc.own⟩
   clear HL c0;go_wp2
   go_ret2
   exact FIN.out
theorem rule_infoJ:(Tryz.prog.info? 59).map (fun i=>(i.zero,i.size,i.bytes))=some (some (.agg #[.int .i64 0,.int .i64 0,.int .i64 0]),3,24):=by kernel_rfl
abbrev ruleL (r:Pure.Rule):List Value:=[.int .i64 r.emit,.int .i64 r.act,.int .i64 r.mode]
theorem wpList_append_rule {w:World} {ops:Array Oper} {rest:List Oper} {o:Oper} {a:Act} {Q:Exit→Act→World→Prop} (hgd:o.guard=none) (s x:Operand)
  (ho:o.op=.call { callee:=.builtin .append,args:=#[s,x],argTypes:=#[40,40] }) (base:Nat) (v:Value) (u:List Pure.Rule) (q:Pure.Rule) (gx:Nat) (hs:a.eval s=v) (hown:w.ownsRow base 59 3 v u.length (ruleCells u))
  (hx:a.eval x=.slice (some ⟨gx,0,none⟩) 1 1) (hb:Blk w gx 59 (ruleL q)) (hlen:u.length≤1000) (hbase:base≤w.heap.size)
  (h:∀v' w',w'.ownsRow base 59 3 v' (u++[q]).length (ruleCells (u++[q]))→w.grownBy w' v.ownBlock→wpList Tryz.prog ops Q rest (a.put o.dst v') w'):wpList Tryz.prog ops Q (o::rest) a w:=by
 obtain⟨il,hil,hl0,hl1,hl2⟩:=info_parts rule_infoJ
 refine wpList_append_own _ hgd s x 40 ho base 59 il _ 3 24 Tryz.underlying40 hil hl0 hl1 hl2 rfl (by decide) v u.length (ruleCells u) hs hown ⟨gx,0,none⟩ 1 1 (ruleL q) hx rfl ?_ (fun z hz=>by simp at hz;rcases hz with rfl | rfl | rfl <;> rfl) (by unfold maxLen;omega) (by omega) hbase ?_
 ·intro j y hy
  have:=blk_cell hb hy;simpa [add_eq] using this
 ·intro v' w' h1 h2 _
  refine h v' w' ?_ h2;rw [List.length_append];have e:ruleCells (u++[q])=ruleCells u++ruleL q:=by simp [ruleCells]
  rw [e];exact h1
theorem kl_info:(Tryz.prog.info? 88).map (fun i=>(i.zero,i.size,i.bytes))=some (some (.slice none 0 0),1,24):=by kernel_rfl
theorem wpList_append_kl {w:World} {ops:Array Oper} {rest:List Oper} {o:Oper} {a:Act} {Q:Exit→Act→World→Prop} (hgd:o.guard=none) (s x:Operand)
  (ho:o.op=.call { callee:=.builtin .append,args:=#[s,x],argTypes:=#[86,86] }) (base:Nat) (v:Value) (vs:List Value) (hs:a.eval s=v) (hown:w.ownsRow base 88 1 v vs.length vs)
  (gx:Nat) (q:Value) (hx:a.eval x=.slice (some ⟨gx,0,none⟩) 1 1) (hb:Blk w gx 88 [q]) (hq:q.oneCell'=true) (hlen:vs.length≤1000) (hbase:base≤w.heap.size)
  (h:∀v' w',w'.ownsRow base 88 1 v' (vs++[q]).length (vs++[q])→w.grownBy w' v.ownBlock→wpList Tryz.prog ops Q rest (a.put o.dst v') w'):wpList Tryz.prog ops Q (o::rest) a w:=by
 obtain⟨il,hil,hl0,hl1,hl2⟩:=info_parts kl_info
 refine wpList_append_own _ hgd s x 86 ho base 88 il _ 1 24 Tryz.underlying86 hil hl0 hl1 hl2 rfl (by decide) v vs.length vs hs hown ⟨gx,0,none⟩ 1 1 [q] hx rfl ?_ (fun u hu=>by simp at hu;rw [hu];exact hq) (by unfold maxLen;omega) (by omega) hbase ?_
 ·intro j y hy
  have:=blk_cell hb hy;simpa [add_eq] using this
 ·intro v' w' h1 h2 _
  refine h v' w' ?_ h2;rw [List.length_append];exact h1
theorem Kt.fnd {t0 B:Nat} {w w':World} {v:Value} {sss:List (List Pure.St)} (h:Kt t0 w w') (hn:Fnd B w v sss) (h1:3≠t0) (h2:142≠t0) (h3:87≠t0):Fnd B w' v sss:=by
 obtain⟨vs,k1,k2,k3⟩:=hn
 exact⟨vs,h.rows k1 h3,k2,fun j u ss a b=>⟨h.setm (k3 j u ss a b).1 h1 h2,(k3 j u ss a b).2⟩⟩
theorem Fnd.get {B:Nat} {W:World} {a:Option Addr} {n c:Nat} {sss:List (List Pure.St)} (h:Fnd B W (.slice a n c) sss) {j:Nat} {ss:List Pure.St} (hj:sss[j]?=some ss) (hs:0<ss.length):∃g gs uc,a=some ⟨g,0,none⟩∧W.cell? ⟨g,j,none⟩=some (.slice (some ⟨gs,0,none⟩) ss.length uc)∧Setm B W (.slice (some ⟨gs,0,none⟩) ss.length uc) ss:=by
 obtain⟨vs,h1,h2,h3⟩:=h
 have hl:=(List.getElem?_eq_some_iff.1 hj).1
 obtain⟨g,cap,e,_,_⟩:=own_some h1 (by omega)
 cases e
 have hu:vs[j]?=some (vs[j]'(by omega)):=List.getElem?_eq_getElem (by omega)
 obtain⟨k1,_⟩:=h3 j _ ss hu hj
 obtain⟨ts,t1,t2,t3⟩:=id k1
 have tl:ts.length=ss.length:=by rw [←t2,List.length_map]
 obtain⟨gs,uc,eu,_,_⟩:=own_some t1 (by omega)
 rw [tl] at eu
 rw [eu] at hu k1
 exact⟨g,gs,uc,rfl,own_cell h1 hu,k1⟩
theorem Kt.kdm {t0 B:Nat} {w w':World} {v:Value} {K:List Pure.Kd} (h:Kt t0 w w') (hn:Kdm B w v K) (h1:148≠t0):Kdm B w' v K:=⟨h.rows hn.own h1,hn.len⟩
structure Cm (w:World) (gT:Nat) (all:List Pure.Ln) (al:Option Addr) (nl cl:Nat) (ap:Option Addr) (np cp:Nat) (fv va:Value) (rs:List Pure.Rule) (W:World):Prop where
 be:Below w.heap.size w W
 b:Blk W gT 78 [.int .i64 (Pure.nM all:Nat),.slice al nl cl,.slice ap np cp]
 lm:Lm w.heap.size W (.slice al nl cl) (Pure.allLn all).1
 fd:Fnd w.heap.size W fv (Pure.foundOf all (Pure.nM all))
 a:W.ownsRow w.heap.size 59 3 va rs.length (ruleCells rs)
section
variable {w:World} {gT:Nat} {all:List Pure.Ln} {al:Option Addr} {nl cl:Nat} {ap:Option Addr} {np cp:Nat} {fv va va':Value} {rs:List Pure.Rule} {W W':World}
theorem Cm.below (h:Cm w gT all al nl cl ap np cp fv va rs W) (hb:Below W.heap.size W W'):Cm w gT all al nl cl ap np cp fv va rs W':=
 ⟨bel0 h.be hb,blk_below h.b hb (blk_lt h.b),h.lm.below hb,h.fd.below hb,own_below h.a hb lr_⟩
theorem Cm.addR (h:Cm w gT all al nl cl ap np cp fv va rs W) {r:Pure.Rule} (ho:W'.ownsRow w.heap.size 59 3 va' (rs++[r]).length (ruleCells (rs++[r]))) (hg:W.grownBy W' va.ownBlock):Cm w gT all al nl cl ap np cp fv va' (rs++[r]) W':=by
 have kt:Kt 59 W W':=Kt.row h.a hg
 exact⟨h.be.grown hg h.be.size (fun k e=>(World.ownsRow.lt h.a k e).1),kt.block h.b (by decide),kt.lm h.lm (by decide) (by decide),kt.fnd h.fd (by decide) (by decide) (by decide),ho⟩
theorem Cm.addK (h:Cm w gT all al nl cl ap np cp fv va rs W) {vm:Value} {vs:List Value} (hv:W.ownsRow w.heap.size 88 1 vm vs.length vs) (hg:W.grownBy W' vm.ownBlock):Cm w gT all al nl cl ap np cp fv va rs W':=by
 have kt:Kt 88 W W':=Kt.row hv hg
 exact⟨h.be.grown hg h.be.size (fun k e=>(World.ownsRow.lt hv k e).1),kt.block h.b (by decide),kt.lm h.lm (by decide) (by decide),kt.fnd h.fd (by decide) (by decide) (by decide),kt.rows h.a (by decide)⟩
theorem Kdl.add {B:Nat} {vm v':Value} {vs:List Value} {KK:List (List Pure.Kd)} {K:List Pure.Kd} {a:Option Addr} {n c:Nat} (h1:W.ownsRow B 88 1 vm vs.length vs) (h2:vs.length=KK.length) (h3:∀(j:Nat) (u:Value) (K:List Pure.Kd),vs[j]?=some u→KK[j]?=some K→Kdm B W u K∧∃a n c,u=.slice a n c)
  (hk:Kdm B W (.slice a n c) K) (ho:W'.ownsRow B 88 1 v' (vs++[Value.slice a n c]).length (vs++[Value.slice a n c])) (hg:W.grownBy W' vm.ownBlock):Kdl B W' v' (KK++[K]):=by
 have kt:Kt 88 W W':=Kt.row h1 hg
 refine⟨_,ho,by simp [h2],fun j u K' a1 a2=>?_⟩
 rcases Pure.snoc_get a1 with ⟨hl,hk'⟩ | ⟨rfl,rfl⟩
 ·rw [List.getElem?_append_left (by omega)] at a2
  exact⟨kt.kdm (h3 j u K' hk' a2).1 (by decide),(h3 j u K' hk' a2).2⟩
 ·rw [List.getElem?_append_right (by omega),h2,Nat.sub_self] at a2
  have:K=K':=by simpa using a2
  subst this;exact⟨kt.kdm hk (by decide),_,_,_,rfl⟩
end
namespace Pure
theorem rulesP_take (ls:List Lp) {k:Nat} {x:Lp} (h:ls[k]?=some x):(rulesP ls).take (k+1)=(rulesP ls).take k++[⟨x.emit,x.act,x.md⟩]:=by
 rw [List.take_add_one]
 unfold rulesP
 rw [List.getElem?_map,h]
 rfl
theorem found_get (all:List Ln) {j:Nat} (h:j<nM all):(foundOf all (nM all))[j]?=some (setsOf all j):=by
 unfold foundOf
 rw [List.getElem?_map,List.getElem?_range h]
 rfl
theorem kks_take (all:List Ln) {j:Nat} (h:j<nM all):(kksOf all).take (j+1)=(kksOf all).take j++[kindsS (allLn all).1 (setsOf all j)]:=by
 rw [List.take_add_one]
 unfold kksOf
 rw [List.getElem?_map,List.getElem?_range h]
 rfl
def PComp (s:ByteArray) (en:Int) (str:ByteArray):Prop:=(∃no,PCheck s en no)∧(en≠0→str=⟨#[]⟩)∧
 (en=0→∃all,Lns s 0 [] all∧NoL dnL all∧NoL emL all∧(∀j,j<nM all→(setsOf all j).length≤42)∧str=strOfNums (img (compP all)))
end Pure
theorem compile_any (s:ByteArray) (w:World):Calls Tryz.prog 11 #[.string s] w (fun e w'=>∃en str,e=.returned (.tuple #[.string str,.int .i64 en])∧Below w.heap.size w w'∧Pure.PComp s en str):=by
 go_enter Tryz.func11,Tryz.ntmps11
 go_wp2_with fail
 refine (read_anyR s w).mono ?_
 rintro e w1 ⟨a,b,c,fv,en,no,rfl,hb,hp,hn,hy⟩
 by_cases he:en=0
 ·subst he
  obtain⟨all,al,nl,cl,ap,np,cp,hL,hD,hE,h42,rfl,rfl,rfl,lm,pl,fd⟩:=hy rfl;obtain⟨vs0,fo,fl,_⟩:=id fd;obtain⟨af,cf,rfl,_,_⟩:=own_fm fo;have fl2:vs0.length=Pure.nM all:=by rw [fl];simp [Pure.foundOf]
  rw [fl2] at fd;rw [fl2];have bds:=hL.bds;have nm:=Pure.nM_bd bds.1;have nm4:=nm.2.2;have lin:=Pure.allLn_lin all
  have plen:(Pure.allLn all).2.length≤1000:=by
   rw [lin.len]
   have:s.size≤300:=by
    rcases hp with ⟨_,e,_⟩ | ⟨h,_⟩ | ⟨h,_⟩
    ·cases e
    ·exact h
    ·exact h
   exact Nat.le_trans hL.base_le (by omega)
  have slen:s.size≤1000:=by
   rcases hp with ⟨_,e,_⟩ | ⟨h,_⟩ | ⟨h,_⟩
   ·cases e
   ·omega
   ·omega
  have llen:(Pure.allLn all).1.length≤16:=by rw [lin.n];omega
  have PTS:Hid (∀x∈(Pure.allLn all).1,Pure.PtOK (Pure.allLn all).2.length x.pt):=by
   have:=lin.pts;rw [←lin.len] at this;exact this
  have nleq:nl=(Pure.allLn all).1.length:=by
   obtain⟨_,_,e,_⟩:=lm.len;cases e;rfl
  have hb2:=(Below.refl w1.heap.size w1).alloc lr_ (.cells #[.int .i64 (Pure.nM all:Nat),.slice al nl cl,.slice ap np cp] 78);have hb3:=hb2.alloc (by simp) (.cells #[] 59)
  have C0:Hid (Cm w w1.heap.size all al nl cl ap np cp (.slice af (Pure.nM all) cf) (.slice (some ⟨w1.heap.size+1,0,none⟩) 0 0) ((Pure.rulesP (Pure.allLn all).1).take 0) ((w1.alloc (.cells #[.int .i64 (Pure.nM all:Nat),.slice al nl cl,.slice ap np cp] 78)).alloc (.cells #[] 59))):=by
   have on:=own_none (w1.alloc (.cells #[.int .i64 (Pure.nM all:Nat),.slice al nl cl,.slice ap np cp] 78)) 59 3;rw [World.size_alloc] at on;have szw:=hb.size;exact⟨bel0 hb hb3,blk_alloc (heap_alloc_new _ _) _,lm.below hb3,fd.below hb3,own_mono on (by omega)⟩
  have HLN:=hide hL;have HD:=hide hD;have HE:=hide hE;have H42:=hide h42;have HP:=hide hp;subst nleq;clear hb hp hn hy hL hD hE h42 lm pl fd fo fl fl2 hb2 hb3 bds nm lin;go_upto_region 5 with (fail);generalize (w1.alloc (.cells #[.int .i64 (Pure.nM all:Nat),.slice al (Pure.allLn all).1.length cl,.slice ap np cp] 78)).alloc (.cells #[] 59)=W2 at *;generalize hva:Value.slice (some ⟨w1.heap.size+1,0,none⟩) 0 0=va0 at *;generalize w1.heap.size=gT at *;have t1:=bc_ 1 C0.out.b rfl
  go_wp2_with fail
  clear t1
  go_loopg [8,10,30] (Pure.allLn all).1.length (fun gk av _ kv wx=>∃(k:Nat) (v:Value),k≤(Pure.allLn all).1.length∧gk=(Pure.allLn all).1.length-k∧kv=.int .i64 k∧v=av∧Cm w gT all al (Pure.allLn all).1.length cl ap np cp (.slice af (Pure.nM all) cf) v ((Pure.rulesP (Pure.allLn all).1).take k) wx)
  case atStart=>exact⟨0,_,Nat.zero_le _,rfl,rfl,rfl,C0.out⟩
  case round=>
   clear C0 hva;obtain⟨k,v,kl,rfl,rfl,rfl,hC⟩:=hrel;by_cases hk:k<(Pure.allLn all).1.length
   ·have d1:decide ((k:Int)<((Pure.allLn all).1.length:Int))=true:=decide_eq_true (by omega)
    have wi:=wr_ (k:Int) (by omega) (by omega);have ik0:=nz_ k;have ik1:(k:Int)<((Pure.allLn all).1.length:Int):=by omega
    obtain⟨x,hx⟩:∃x,(Pure.allLn all).1[k]?=some x:=⟨_,List.getElem?_eq_getElem hk⟩;have TK:=hide (Pure.rulesP_take (Pure.allLn all).1 hx);have RL:((Pure.rulesP (Pure.allLn all).1).take k).length≤1000:=by rw [List.length_take];omega
    obtain⟨g,cap,afx,mfx,cfx,alx,nlx,clx,ev,hr,n1,n2⟩:=hC.lm.get hx;cases ev;generalize (Pure.rulesP (Pure.allLn all).1).take k=rs at *;have hbb:=(Below.refl wr.heap.size wr).alloc lr_ (.cells (lnC1 (x,.slice afx mfx cfx,.slice alx nlx clx)).toArray 85);have C2:=hide (hC.below hbb);have BX:Hid (Blk (wr.alloc (.cells (lnC1 (x,.slice afx mfx cfx,.slice alx nlx clx)).toArray 85)) wr.heap.size 85 (lnC1 (x,.slice afx mfx cfx,.slice alx nlx clx))):=heap_alloc_new _ _;have HR:=hide hr;clear hr hx n1 n2 hbb hC;obtain⟨mo,em,ac,md,⟨ep,fi,la⟩,dn⟩:=x;simp only [lnC1] at C2 BX HR;simp only at TK;go_upto_region 8 with (refine wpList_load_mid rfl 85 (.tmp 32) rfl g (k*8) rfl _ _ HR.out Tryz.underlying85 rfl line_size ?_);have x1:=bc_ 1 BX.out rfl;have x2:=bc_ 2 BX.out rfl;have x3:=bc_ 3 BX.out rfl;clear HR BX;generalize wr.alloc (.cells #[.int .i64 mo,.int .i64 em,.int .i64 ac,.int .i64 md,.bool ep,.slice afx mfx cfx,.slice alx nlx clx,.bool dn] 85)=W3 at *;generalize wr.heap.size=gx at *;have hbA:Below W3.heap.size W3 (W3.alloc (.cells #[.int .i64 em,.int .i64 ac,.int .i64 md] 59)):=bn_ _;have CA:=hide (C2.out.below hbA);have SZ:Hid (w.heap.size≤(W3.alloc (.cells #[.int .i64 em,.int .i64 ac,.int .i64 md] 59)).heap.size):=CA.out.be.size;have NB:Hid (Blk (W3.alloc (.cells #[.int .i64 em,.int .i64 ac,.int .i64 md] 59)) W3.heap.size 59 (ruleL ⟨em,ac,md⟩)):=heap_alloc_new _ _;clear C2 hbA;go_upto_region 9 with (at_builtin;go_must (refine wpList_append_rule rfl (.tmp 34) (.tmp 37) rfl w.heap.size v rs ⟨em,ac,md⟩ W3.heap.size rfl CA.out.a rfl NB.out RL SZ.out ?_);intro v8 w8 hown8 hgrow8);have C8:=hide (CA.out.addR hown8 hgrow8);clear hown8 hgrow8 CA SZ NB x1 x2 x3;go_wp2;go_roundg ((Pure.allLn all).1.length-(k+1))
    case measure=>omega
    case rel=>exact⟨k+1,v8,by omega,rfl,by go_num,rfl,by rw [TK.out];exact C8.out⟩
   ·have d1:decide ((k:Int)<((Pure.allLn all).1.length:Int))=false:=decide_eq_false (by omega)
    have ek:(Pure.rulesP (Pure.allLn all).1).take k=Pure.rulesP (Pure.allLn all).1:=List.take_of_length_le (by unfold Pure.rulesP;rw [List.length_map];omega);rw [ek] at hC;have hb5:Below wr.heap.size wr (wr.alloc (.cells #[] 88)):=bn_ _;have C5:=hide (hC.below hb5)
    have K5:Hid (Kdl w.heap.size (wr.alloc (.cells #[] 88)) (.slice (some ⟨wr.heap.size,0,none⟩) 0 0) ((Pure.kksOf all).take 0)):=by
     have on:=own_none wr 88 1;exact⟨[],own_mono on hC.be.size,rfl,fun j u K hu=>by simp at hu⟩
    clear hC hb5 ek;go_upto_region 11 with (fail);generalize wr.alloc (.cells #[] 88)=W5 at *;generalize Value.slice (some ⟨wr.heap.size,0,none⟩) 0 0=vm0 at *
    go_wp2_with fail
    go_loopg [11,13,43] (Pure.nM all) (fun gk mv _ jv wx=>∃(j:Nat) (vm:Value),j≤Pure.nM all∧gk=Pure.nM all-j∧jv=.int .i64 j∧vm=mv∧Cm w gT all al (Pure.allLn all).1.length cl ap np cp (.slice af (Pure.nM all) cf) v (Pure.rulesP (Pure.allLn all).1) wx∧Kdl w.heap.size wx vm ((Pure.kksOf all).take j))
    case atStart=>exact⟨0,_,Nat.zero_le _,rfl,rfl,rfl,C5.out,K5.out⟩
    case round=>
     clear C5 K5;obtain⟨j,vm,jl,rfl,rfl,rfl,hC,hK⟩:=hrel;by_cases hj:j<Pure.nM all
     ·have d2:=dl_ (j:Int) (Pure.nM all:Int) (by omega)
      have wj:=wr_ (j:Int) (by omega) (by omega);have ij0:=nz_ j;have ij1:(j:Int)<(Pure.nM all:Int):=by omega
      have LED:=hide (Pure.sets_led H42.out hj);have PLC:=hide (Pure.sets_places HLN.out H42.out hj);have SL:=hide (H42.out j hj);have KT:=hide (Pure.kks_take all hj);have FG:=Pure.found_get all hj;generalize Pure.setsOf all j=ss at *;obtain⟨gF,gs,uc,rfl,cu,hS⟩:=hC.fd.get FG (by have:=LED.out.two;omega);have CALL:=hide (kfind_any w.heap.size (Pure.allLn all).2.length gs uc (.slice al (Pure.allLn all).1.length cl) (Pure.allLn all).1 ss wr hC.lm hS (by omega) plen PTS.out (fun x hx=>by have:=PLC.out x hx;omega) LED.out.lt (by have:=SL.out;omega));have t1:=bc_ 1 hC.b rfl;have HC:=hide hC;have HK:=hide hK;clear hC hK hS FG
      go_wp2_with fail
      refine CALL.out.mono ?_
      clear CALL cu t1;rintro e w6 ⟨v6,rfl,hb6,k6⟩;obtain⟨a6,c6,rfl,_,_⟩:=own_fm k6.own;have K6:Hid (Kdm w.heap.size w6 (.slice a6 (Pure.kindsS (Pure.allLn all).1 ss).length c6) (Pure.kindsS (Pure.allLn all).1 ss)):=⟨own_mono k6.own HC.out.be.size,k6.len⟩;have C6:=hide (HC.out.below hb6);have L6:=hide (HK.out.below hb6);clear k6 hb6 HC HK;generalize Pure.kindsS (Pure.allLn all).1 ss=K at *;have hbA:Below w6.heap.size w6 (w6.alloc (.cells #[.slice a6 K.length c6] 88)):=bn_ _;have C7:=hide (C6.out.below hbA);have K7:=hide (K6.out.below hbA);have NB:Hid (Blk (w6.alloc (.cells #[.slice a6 K.length c6] 88)) w6.heap.size 88 [.slice a6 K.length c6]):=heap_alloc_new _ _;have SZ:Hid (w.heap.size≤(w6.alloc (.cells #[.slice a6 K.length c6] 88)).heap.size):=C7.out.be.size;obtain⟨vs,v1,v2,v3⟩:=L6.out.below hbA;have V1:=hide v1;have V2:=hide v2;have V3:=hide v3
      have vl:vs.length≤1000:=by
       rw [v2,List.length_take];omega
      clear C6 K6 L6 hbA v1 v2 v3
      go_wp2_with (at_builtin;go_must (refine wpList_append_kl rfl (.tmp 47) (.tmp 52) rfl w.heap.size vm vs rfl V1.out w6.heap.size (.slice a6 K.length c6) rfl NB.out rfl vl SZ.out ?_);intro v8 w8 hown8 hgrow8)
      have K8:=hide (Kdl.add V1.out V2.out V3.out K7.out hown8 hgrow8);have C8:=hide (C7.out.addK V1.out hgrow8);clear hown8 hgrow8 C7 K7 NB SZ V1 V2 V3;go_roundg (Pure.nM all-(j+1))
      case measure=>omega
      case rel=>exact⟨j+1,v8,by omega,rfl,by go_num,rfl,C8.out,by rw [KT.out];exact K8.out⟩
     ·have d2:=df_ (j:Int) (Pure.nM all:Int) (by omega)
      have ej:(Pure.kksOf all).take j=Pure.kksOf all:=List.take_of_length_le (by rw [Pure.kks_len];omega);rw [ej] at hK
      have KKO:Hid (∀m∈Pure.kksOf all,Pure.KdsOK all.length m):=fun m hm=>by
       obtain⟨i,hi⟩:=List.getElem?_of_mem hm;exact (Pure.kks_tell H42.out hi).ok
      have CALL:=hide (clay_any w.heap.size vm (Pure.kksOf all) wr hK (by rw [Pure.kks_len];omega) (fun m hm=>(KKO.out m hm).1) (fun m hm k hk=>((KKO.out m hm).2 k hk).2.2));have HC:=hide hC;clear hC hK ej
      go_wp2_with fail
      refine CALL.out.mono ?_
      clear CALL;rintro e w7 ⟨ve,vc,rfl,hb7,e7,c7⟩;have C7:=HC.out.below hb7;have B7:=hide C7.be;obtain⟨ae,ce,rfl,_,_⟩:=own_fm e7;obtain⟨ac,cc,rfl,_,_⟩:=own_fm c7;obtain⟨aa,ca,ea,_,_⟩:=own_fm C7.a;subst ea;have WR:=hide (write_any _ _ _ (Pure.compP all) w7 (own_ints e7 rfl) (own_rules C7.a rfl) (own_code c7 rfl) (Pure.comp_right HLN.out H42.out));clear C7 e7 c7 hb7 HC
      go_wp2_with fail
      refine WR.out.mono ?_
      rintro e w8 ⟨rfl,hb8⟩;have B8:=hide (bel0 B7.out hb8);have FIN:Hid (Pure.PComp s 0 (strOfNums (Pure.img (Pure.compP all)))):=⟨⟨no,HP.out⟩,fun h=>absurd rfl h,fun _=>⟨all,HLN.out,HD.out,HE.out,H42.out,rfl⟩⟩;clear WR hb8 B7;generalize strOfNums (Pure.img (Pure.compP all))=str at *;go_wp2
      go_ret2
      exact⟨0,str,rfl,B8.out,FIN.out⟩
 ·obtain⟨h1,rfl⟩:=hn he
  cases h1
  have e0:(en != 0)=true:=by simpa using he
  have e1:(en == 0)=false:=by simpa using he
  have B2:=hide (hb.alloc hb.size (.cells #[.int .i64 0,.slice none 0 0,.slice none 0 0] 78));have FIN:Hid (Pure.PComp s en ⟨#[]⟩):=⟨⟨no,hp⟩,fun _=>rfl,fun h=>absurd h he⟩;clear hb hp hn hy;go_wp2
  go_ret2
  exact⟨en,_,rfl,B2.out,FIN.out⟩
namespace Pure
section
variable {s:ByteArray}
theorem Esc.det {c v v':Int} (h:Esc c v) (h':Esc c v'):v'=v:=by
 unfold Esc at *
 omega
theorem Sg.det {i j j':Nat} {v v':Int} (h:Sg s i j v) (h':Sg s i j' v'):j'=j∧v'=v:=by
 cases h with
 | plain a b=>
  cases h' with
  | plain _ _=>exact⟨rfl,rfl⟩
  | esc c _=>exact absurd c b
 | esc a b=>
  cases h' with
  | plain _ d=>exact absurd a d
  | esc _ d=>exact⟨rfl,b.det d⟩
theorem It.det {i j j':Nat} {v v' u u':Int} {r r':Bool} (h:It s i j v u r) (h':It s i j' v' u' r'):j'=j∧v'=v∧u'=u:=by
 cases h with
 | one a b=>
  cases h' with
  | one c d=>obtain⟨rfl,rfl⟩:=a.det c;exact⟨rfl,rfl,rfl⟩
  | range c d e=>obtain⟨rfl,rfl⟩:=a.det c;exact absurd d b
 | range a b c=>
  cases h' with
  | one d e=>obtain⟨rfl,rfl⟩:=a.det d;exact absurd b e
  | range d e f=>
   obtain⟨rfl,rfl⟩:=a.det d;obtain⟨rfl,rfl⟩:=c.det f;exact⟨rfl,rfl,rfl⟩
theorem Cl.det {i k:Nat} {T T1:Nat→Bool} {D D1:Bool} (h:Cl s i T D k T1 D1):∀{k':Nat} {T2:Nat→Bool} {D2:Bool},Cl s i T D k' T2 D2→k'=k∧T2=T1∧D2=D1:=by
 induction h with
 | done a b=>
  intro k' T2 D2 h'
  cases h' with
  | done c d=>obtain⟨rfl,rfl,rfl⟩:=a.det c;exact⟨rfl,rfl,rfl⟩
  | more c d e=>obtain⟨rfl,rfl,rfl⟩:=a.det c;exact absurd b d
 | more a b _ ih=>
  intro k' T2 D2 h'
  cases h' with
  | done c d=>obtain⟨rfl,rfl,rfl⟩:=a.det c;exact absurd d b
  | more c d e=>obtain⟨rfl,rfl,rfl⟩:=a.det c;exact ih e
theorem P.det {t:Nt} {i j:Nat} {a:Re} {D:Bool} (h:P s t i j a D):∀{j':Nat} {a':Re} {D':Bool},P s t i j' a' D'→j'=j∧a'=a∧D'=D:=by
 induction h with
 | any h1=>
  intro j' a' D' h'
  cases h' with
  | any _=>exact⟨rfl,rfl,rfl⟩
  | chr _ _ _ _ k=>exact absurd h1 k
  | esc k _=>omega
  | cls k _ _=>omega
  | ncls k _ _=>omega
  | grp k _ _=>omega
 | chr h1 h2 h3 h4 h5=>
  intro j' a' D' h'
  cases h' with
  | any k=>exact absurd k h5
  | chr _ _ _ _ _=>exact⟨rfl,rfl,rfl⟩
  | esc k _=>exact absurd k h2
  | cls k _ _=>exact absurd k h4
  | ncls k _ _=>exact absurd k h4
  | grp k _ _=>exact absurd k h3
 | esc h1 h2=>
  intro j' a' D' h'
  cases h' with
  | any k=>omega
  | chr _ k _ _ _=>exact absurd h1 k
  | esc _ k=>rw [h2.det k];exact⟨rfl,rfl,rfl⟩
  | cls k _ _=>omega
  | ncls k _ _=>omega
  | grp k _ _=>omega
 | cls h1 h2 h3=>
  intro j' a' D' h'
  cases h' with
  | any k=>omega
  | chr _ _ _ k _=>exact absurd h1 k
  | esc k _=>omega
  | cls _ _ k=>obtain⟨rfl,rfl,rfl⟩:=h3.det k;exact⟨rfl,rfl,rfl⟩
  | ncls _ k _=>exact absurd k h2
  | grp k _ _=>omega
 | ncls h1 h2 h3=>
  intro j' a' D' h'
  cases h' with
  | any k=>omega
  | chr _ _ _ k _=>exact absurd h1 k
  | esc k _=>omega
  | cls _ k _=>exact absurd h2 k
  | ncls _ _ k=>obtain⟨rfl,rfl,rfl⟩:=h3.det k;exact⟨rfl,rfl,rfl⟩
  | grp k _ _=>omega
 | grp h1 _ _ ih=>
  intro j' a' D' h'
  cases h' with
  | any k=>omega
  | chr _ _ k _ _=>exact absurd h1 k
  | esc k _=>omega
  | cls k _ _=>omega
  | ncls k _ _=>omega
  | grp _ k _=>obtain⟨rfl,rfl,rfl⟩:=ih k;exact⟨rfl,rfl,rfl⟩
 | pcR0 h1 h2 h3=>
  intro j' a' D' h'
  cases h' with
  | pcR0 _ _ _=>exact⟨rfl,rfl,rfl⟩
  | star k _=>exact absurd k h1
  | plus k _=>exact absurd k h2
  | opt k _=>exact absurd k h3
 | star h1 _ ih=>
  intro j' a' D' h'
  cases h' with
  | pcR0 k _ _=>exact absurd h1 k
  | star _ k=>exact ih k
  | plus k _=>omega
  | opt k _=>omega
 | plus h1 _ ih=>
  intro j' a' D' h'
  cases h' with
  | pcR0 _ k _=>exact absurd h1 k
  | star k _=>omega
  | plus _ k=>exact ih k
  | opt k _=>omega
 | opt h1 _ ih=>
  intro j' a' D' h'
  cases h' with
  | pcR0 _ _ k=>exact absurd h1 k
  | star k _=>omega
  | plus k _=>omega
  | opt _ k=>exact ih k
 | pc _ _ ih1 ih2=>
  intro j' a' D' h'
  cases h' with
  | pc k l=>obtain⟨rfl,rfl,rfl⟩:=ih1 k;exact ih2 l
 | brR0 h1=>
  intro j' a' D' h'
  cases h' with
  | brR0 _=>exact⟨rfl,rfl,rfl⟩
  | brR k _ _=>exact absurd k h1
 | brR h1 _ _ ih1 ih2=>
  intro j' a' D' h'
  cases h' with
  | brR0 k=>exact absurd h1 k
  | brR _ k l=>obtain⟨rfl,rfl,rfl⟩:=ih1 k;exact ih2 l
 | br _ _ ih1 ih2=>
  intro j' a' D' h'
  cases h' with
  | br k l=>obtain⟨rfl,rfl,rfl⟩:=ih1 k;exact ih2 l
 | paR0 h1=>
  intro j' a' D' h'
  cases h' with
  | paR0 _=>exact⟨rfl,rfl,rfl⟩
  | paR k _ _=>exact absurd k h1
 | paR h1 _ _ ih1 ih2=>
  intro j' a' D' h'
  cases h' with
  | paR0 k=>exact absurd h1 k
  | paR _ k l=>obtain⟨rfl,rfl,rfl⟩:=ih1 k;exact ih2 l
 | pa _ _ ih1 ih2=>
  intro j' a' D' h'
  cases h' with
  | pa k l=>obtain⟨rfl,rfl,rfl⟩:=ih1 k;exact ih2 l
theorem Act.det {i k k':Nat} {e e' c c' m m':Int} (h:Act s i k e c m) (h':Act s i k' e' c' m'):k'=k∧e'=e∧c'=c∧m'=m:=by
 cases h with
 | plain a b1 b2 b3=>
  cases h' with
  | plain d _ _ _=>unfold EmitB at *;exact⟨rfl,by omega,rfl,rfl⟩
  | pop _ d=>exact absurd d b1
  | «to» _ d _=>exact absurd d b2
  | push _ d _=>exact absurd d b3
 | pop a b=>
  cases h' with
  | plain _ d _ _=>exact absurd b d
  | pop d _=>unfold EmitB at *;exact⟨rfl,by omega,rfl,rfl⟩
  | «to» _ d _=>omega
  | push _ d _=>omega
 | «to» a b _=>
  cases h' with
  | plain _ _ d _=>exact absurd b d
  | pop _ d=>omega
  | «to» d _ _=>unfold EmitB at *;exact⟨rfl,by omega,rfl,rfl⟩
  | push _ d _=>omega
 | push a b _=>
  cases h' with
  | plain _ _ _ d=>exact absurd b d
  | pop _ d=>omega
  | «to» _ d _=>omega
  | push d _ _=>unfold EmitB at *;exact⟨rfl,by omega,rfl,rfl⟩
theorem LnP.det {i k k':Nat} {x x':Ln} (h:LnP s i k x) (h':LnP s i k' x'):k'=k∧x'=x:=by
 cases h with
 | mk a b c d e=>
  cases h' with
  | mk a' b' c' d' e'=>
   obtain⟨rfl,rfl,rfl⟩:=c.det c';obtain⟨rfl,rfl,rfl,rfl⟩:=e.det e';exact⟨rfl,rfl⟩
theorem LnP.end_lt {i k:Nat} {x:Ln} (h:LnP s i k x):k≤s.size:=h.le.2.2
theorem Lns.det {i:Nat} {ls all:List Ln} (h:Lns s i ls all):∀{all':List Ln},Lns s i ls all'→all'=all:=by
 induction h with
 | done a=>
  intro all' h'
  cases h' with
  | done b=>obtain⟨_,rfl⟩:=a.det b;rfl
  | more b c _ _=>
   obtain⟨rfl,rfl⟩:=a.det b;exfalso;unfold pkb at c;rw [if_neg (Nat.lt_irrefl _)] at c;omega
 | more a b _ _ ih=>
  intro all' h'
  cases h' with
  | done c=>
   obtain⟨rfl,rfl⟩:=a.det c;exfalso;unfold pkb at b;rw [if_neg (Nat.lt_irrefl _)] at b;omega
  | more c d _ e=>
   obtain⟨rfl,rfl⟩:=a.det c;exact ih e
theorem PCheck.zero {all:List Ln} {en no:Int} (h:PCheck s en no) (hs:s.size≤300) (hL:Lns s 0 [] all) (hD:NoL dnL all) (hE:NoL emL all) (h42:∀j,j<nM all→(setsOf all j).length≤42):en=0:=by
 have no1:∀(f:Ln→Bool) (i:Nat),NoL f all→FirstL f all i→False:=fun f i hn hf=>by
  obtain⟨⟨x,h1,h2⟩,_⟩:=hf;have:=hn x (List.mem_of_getElem? h1);rw [this] at h2;cases h2
 rcases h with ⟨h1,_⟩ | ⟨_,k,h2,_⟩ | ⟨_,all',hL',h⟩
 ·omega
 ·obtain⟨q,g1,g2⟩:=hL.accepts
  exact (h2.at.not g1 g2).elim
 ·have e:=hL.det hL'
  subst e;rcases h with ⟨i,h1,_⟩ | ⟨_,i,h1,_⟩ | ⟨_,_,⟨m,h1,h2,_⟩ | ⟨_,h3,_⟩⟩
  ·exact (no1 _ i hD h1).elim
  ·exact (no1 _ i hE h1).elim
  ·have:=h42 m h1
   omega
  ·exact h3
theorem PComp.zero {all:List Ln} {en:Int} {str:ByteArray} (h:PComp s en str) (hs:s.size≤300) (hL:Lns s 0 [] all) (hD:NoL dnL all) (hE:NoL emL all) (h42:∀j,j<nM all→(setsOf all j).length≤42):en=0∧str=strOfNums (img (compP all)):=by
 obtain⟨⟨no,hp⟩,_,h3⟩:=h
 have e:=hp.zero hs hL hD hE h42
 obtain⟨all',hL',_,_,_,h4⟩:=h3 e
 have e2:=hL.det hL'
 subst e2
 exact⟨e,h4⟩
end
end Pure
end Go.Proofs.YtmccnmgaoppogaaGreat
