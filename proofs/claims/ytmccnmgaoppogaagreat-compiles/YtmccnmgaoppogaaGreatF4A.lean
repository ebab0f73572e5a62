/-
 The walks: where a mode begins; what is behind a set. (sets)
 The walks: what is behind a set, what takes a byte. (sets)
 The walks: the number of a set. (sets)
 The walks: the number of a set. (sets)
-/
import Derived.Test.YtmccnmgaoppogaaGreatE24
import Derived.Test.YtmccnmgaoppogaaGreatGaA
namespace Go.Proofs.YtmccnmgaoppogaaGreat
set_option maxRecDepth 100000
set_option maxHeartbeats 8000000
open Go.RowKit
def stC1 (t:Pure.St × Value):List Value:=t.2::natCells t.1.longer
def stC (ts:List (Pure.St × Value)):List Value:=ts.flatMap stC1
theorem stC_append (a b:List (Pure.St × Value)):stC (a++b)=stC a++stC b:=by simp [stC]
theorem stC_cons (q:Pure.St × Value) (r:List (Pure.St × Value)):stC (q::r)=stC1 q++stC r:=rfl
structure Fd (B g:Nat) (ps:List Pure.Pl) (ss:List Pure.St) (vp vs:Value) (ts:List (Pure.St × Value)) (W:World):Prop where
 fb:Blk W g 189 [vp,vs]
 up:B≤g
 pl:Plm 0 W vp ps
 own:W.ownsRow B 142 257 vs ts.length (stC ts)
 ss:ts.map (·.1)=ss
 nx:∀t∈ts,Nats W t.2 t.1.places
 ln:∀t∈ts,t.1.longer.length=256
section
variable {B g:Nat} {ps:List Pure.Pl} {ss:List Pure.St} {vp vs:Value} {ts:List (Pure.St × Value)} {W W':World}
theorem Fd.below (h:Fd B g ps ss vp vs ts W) (hb:Below W.heap.size W W'):Fd B g ps ss vp vs ts W':=
 ⟨blk_below h.fb hb (blk_lt h.fb),h.up,h.pl.below hb,own_below h.own hb lr_,h.ss,fun t ht=>(h.nx t ht).below hb,h.ln⟩
theorem Fd.len (h:Fd B g ps ss vp vs ts W):ts.length=ss.length:=by rw [←h.ss,List.length_map]
end
theorem Plm.len {B:Nat} {W:World} {v:Value} {ps:List Pure.Pl} (h:Plm B W v ps):∃a c,v=.slice a ps.length c:=by
 obtain⟨qs,h1,h2,_⟩:=h
 obtain⟨a,c,e,_⟩:=own_fm h1
 exact⟨a,c,by rw [e,←h2,List.length_map]⟩
theorem Plm.get {B:Nat} {W:World} {v:Value} {ps:List Pure.Pl} (h:Plm B W v ps) {p:Nat} {x:Pure.Pl} (hp:ps[p]?=some x) :
  ∃g cap an nn cn,v=.slice (some ⟨g,0,none⟩) ps.length cap∧W.cell? ⟨g,p*257+256,none⟩=some (.slice an nn cn)∧Nats W (.slice an nn cn) x.next∧∀b,b<256→W.cell? ⟨g,p*257+b,none⟩=some (.bool (x.takes b)):=by
 obtain⟨qs,h1,h2,h3⟩:=h
 have e:ps.length=qs.length:=by rw [←h2,List.length_map]
 rw [←h2,List.getElem?_map] at hp
 cases hq:qs[p]? with
 | none=>rw [hq] at hp;cases hp
 | some q=>
  rw [hq] at hp;simp only [Option.map_some,Option.some.injEq] at hp;subst hp;have pl:p<qs.length:=(List.getElem?_eq_some_iff.1 hq).1;obtain⟨g,cap,ev,_,_⟩:=own_some h1 (by omega);subst ev;have n1:=h3 q (List.mem_of_getElem? hq);obtain⟨an,cn,e2,_⟩:=n1.form;refine⟨g,cap,an,_,cn,by rw [e],?_,by rw [←e2];exact n1,fun b hb=>own_cell h1 (plC_take hq hb)⟩;rw [←e2];exact own_cell h1 (plC_next hq)
def RetNs (l:List Nat) (w:World) (e:Ending) (w':World):Prop:=∃v,e=.returned v∧Below w.heap.size w w'∧w'.ownsRow w.heap.size 3 1 v l.length (natCells l)
def begStep (mode:Int) (acc:List Nat) (x:Pure.Lp):List Nat:=if x.mode=mode then Pure.un acc x.pt.first else acc
theorem begin_any (B n:Nat) (v:Value) (ls:List Pure.Lp) (mode:Int) (w:World) (h:Lm B w v ls) (_hl:ls.length≤1000) (hn:n≤1000) (hok:∀x∈ls,Pure.PtOK n x.pt) :
  Calls Tryz.prog 83 #[v,.int .i64 mode] w (RetNs (Pure.beginR ls mode) w):=by
 obtain⟨av,cv,rfl,hv1,hv2⟩:=h.len
 have H0:=hide h
 have OK:=hide hok
 have B0:Hid (Below w.heap.size w (w.alloc (.cells #[] 3))):=bn_ _
 clear h hok
 go_enter Tryz.func83,Tryz.ntmps83
 go_wp2_with fail
 go_loopg [5,7,11] ls.length (fun gk rv _ kv wx=>∃(k:Nat) (acc:List Nat) (r:Value),k≤ls.length∧gk=ls.length-k∧rv=r∧kv=.int .i64 k∧Pure.Inl n acc∧(ls.drop k).foldl (begStep mode) acc=Pure.beginR ls mode∧Below w.heap.size w wx∧wx.ownsRow w.heap.size 3 1 r acc.length (natCells acc))
 case atStart=>exact⟨0,[],_,Nat.zero_le _,rfl,rfl,rfl,.nil _,rfl,B0.out,own_none _ _ _⟩
 case round=>
  clear B0;obtain⟨k,acc,r,kl,rfl,rfl,rfl,hin,hf,hb,ho⟩:=hrel;have HF:=hide hf;have HB:=hide hb;have HO:=hide ho;have HI:=hide hin;have accl:=hin.len;obtain⟨ar,cr,rfl,_,_⟩:=own_fm ho;clear hf hb ho hin;by_cases hlt:k<ls.length
  ·have d1:=dl_ (k:Int) (ls.length:Int) (by omega)
   obtain⟨x,hx⟩:=gx_ ls k hlt;have okx:=OK.out x (List.mem_of_getElem? hx)
   have DR:Hid ((ls.drop (k+1)).foldl (begStep mode) (begStep mode acc x)=Pure.beginR ls mode):=by
    have:=HF.out;rw [List.drop_eq_getElem?_toList_append,hx] at this;exact this
   clear HF;obtain⟨g,cap,af,mf,cf,al,nl,cl,ev,hr,n1,n2⟩:=(H0.out.below HB.out).get hx;cases ev;have wi:=wr_ (k:Int) (by omega) (by omega);have ik0:=nz_ k;have ik1:(k:Int)<(ls.length:Int):=by omega
   have hbb:=(Below.refl wr.heap.size wr).alloc lr_ (.cells (lnC1 (x,.slice af mf cf,.slice al nl cl)).toArray 85);have hb2:=hide (bel0 HB.out hbb);have BX:Hid (Blk (wr.alloc (.cells (lnC1 (x,.slice af mf cf,.slice al nl cl)).toArray 85)) wr.heap.size 85 (lnC1 (x,.slice af mf cf,.slice al nl cl))):=heap_alloc_new _ _;have HO2:=hide (own_below HO.out hbb lr_);have N1:=hide (n1.below hbb);have HR:=hide hr;have OX:=hide okx.1;have xl:=okx.1.len;clear hr hx n1 n2 hbb HO okx;obtain⟨mo,em,ac,md,⟨ep,fi,la⟩,dn⟩:=x;simp only [lnC1] at hb2 BX HR HO2 N1;simp only at OX xl;simp only [begStep] at DR;go_upto_region 5 with (refine wpList_load_mid rfl 85 (.tmp 13) rfl g (k*8) rfl _ _ HR.out Tryz.underlying85 rfl line_size ?_);have x0:=bc_ 0 BX.out rfl;have x5:=bc_ 5 BX.out rfl;clear HR BX;generalize wr.alloc (.cells #[.int .i64 mo,.int .i64 em,.int .i64 ac,.int .i64 md,.bool ep,.slice af mf cf,.slice al nl cl,.bool dn] 85)=W2 at *;by_cases hm:mo=mode
   ·have e1:(mo == mode)=true:=by simpa using hm
    rw [if_pos hm] at DR
    go_wp2_with fail
    refine (union_any _ _ acc fi W2 (own_mono HO2.out (Nat.zero_le _)) N1.out (by omega) (by omega)).mono ?_
    rintro e w3 ⟨u0,rfl,hb3,hu⟩;have B3:=hide (bel0 hb2.out hb3);have U3:Hid (w3.ownsRow w.heap.size 3 1 u0 (Pure.un acc fi).length (natCells (Pure.un acc fi))):=own_mono hu hb2.out.size;have I3:=hide (HI.out.un OX.out);clear hb3 hu HO2 N1 HI OX x0 x5;go_wp2;go_roundg (ls.length-(k+1))
    case measure=>omega
    case rel=>exact⟨k+1,_,_,by omega,rfl,rfl,by go_num,I3.out,DR.out,B3.out,U3.out⟩
   ·have e1:(mo == mode)=false:=by simpa using hm
    rw [if_neg hm] at DR;go_wp2;go_roundg (ls.length-(k+1))
    case measure=>omega
    case rel=>exact⟨k+1,_,_,by omega,rfl,rfl,by go_num,HI.out,DR.out,hb2.out,HO2.out⟩
  ·have d1:=df_ (k:Int) (ls.length:Int) (by omega)
   have e:k=ls.length:=by omega
   have RES:Hid (Pure.beginR ls mode=acc):=by
    have:=HF.out;rw [e,List.drop_length] at this;exact this.symm
   clear HF e;go_wp2;go_ret;exact⟨_,rfl,HB.out,by rw [RES.out];exact HO.out⟩
def behStep (ps:List Pure.Pl) (acc:List Nat) (p:Nat):List Nat:=Pure.un acc (Pure.nx ps p)
theorem behind_any (B g:Nat) (ps:List Pure.Pl) (ss:List Pure.St) (vp vs:Value) (ts:List (Pure.St × Value)) (vr:Value) (set:List Nat) (w:World) (h:Fd B g ps ss vp vs ts w) (hok:Pure.PlsOK ps) (hl:ps.length≤1000) (hr:Nats w vr set) (hi:Pure.Inl ps.length set) :
  Calls Tryz.prog 86 #[.pointer (some ⟨g,0,none⟩),vr] w (RetNs (Pure.behindR ps set) w):=by
 obtain⟨av,cv,rfl,hv1,hv2,hv3⟩:=hr.form
 have H0:=hide h
 have OK:=hide hok
 have HR:=hide hr
 have HI:=hide hi
 have il:=hi.len
 have B0:Hid (Below w.heap.size w (w.alloc (.cells #[] 3))):=bn_ _
 clear h hok hr hi
 go_enter Tryz.func86,Tryz.ntmps86
 go_wp2_with fail
 go_loopg [5,7,11] set.length (fun gk rv _ kv wx=>∃(k:Nat) (acc:List Nat) (r:Value),k≤set.length∧gk=set.length-k∧rv=r∧kv=.int .i64 k∧Pure.Inl ps.length acc∧(set.drop k).foldl (behStep ps) acc=Pure.behindR ps set∧Below w.heap.size w wx∧wx.ownsRow w.heap.size 3 1 r acc.length (natCells acc))
 case atStart=>exact⟨0,[],_,Nat.zero_le _,rfl,rfl,rfl,.nil _,rfl,B0.out,own_none _ _ _⟩
 case round=>
  clear B0;obtain⟨k,acc,r,kl,rfl,rfl,rfl,hin,hf,hb,ho⟩:=hrel;have HF:=hide hf;have HB:=hide hb;have HO:=hide ho;have HIN:=hide hin;have accl:=hin.len;obtain⟨ar,cr,rfl,_,_⟩:=own_fm ho;clear hf hb ho hin;by_cases hlt:k<set.length
  ·have d1:=dl_ (k:Int) (set.length:Int) (by omega)
   obtain⟨p,hp⟩:=gx_ set k hlt;have hpl:p<ps.length:=HI.out.2 p (List.mem_of_getElem? hp);obtain⟨x,hx⟩:=gx_ ps p hpl;have nxx:Pure.nx ps p=x.next:=by unfold Pure.nx;rw [hx]
   have DR:Hid ((set.drop (k+1)).foldl (behStep ps) (Pure.un acc x.next)=Pure.behindR ps set):=by
    have:=HF.out;rw [List.drop_eq_getElem?_toList_append,hp] at this;show _=_;rw [←this,←nxx];rfl
   clear HF;have F1:=H0.out.below HB.out;obtain⟨gp,cap,an,nn,cn,ev,cc,hn,_⟩:=F1.pl.get hx;subst ev;have c0:=bc_ 0 F1.fb rfl;obtain⟨gr,er,_,rc⟩:=(HR.out.below HB.out).some (by omega);subst er;have rk:=rc k p hp;have hxi:=OK.out x (List.mem_of_getElem? hx);have xl:=hxi.len;have XI:=hide hxi;have XN:=hide hn;have wi:=wr_ (k:Int) (by omega) (by omega);have ik0:=nz_ p;have ik1:(p:Int)<(ps.length:Int):=by omega
   clear rc F1 hx hp nxx hxi hn
   go_wp2_with fail
   refine (union_any _ _ acc x.next wr (own_mono HO.out (Nat.zero_le _)) XN.out (by omega) (by omega)).mono ?_
   rintro e w3 ⟨u0,rfl,hb3,hu⟩;have B3:=hide (bel0 HB.out hb3);have U3:Hid (w3.ownsRow w.heap.size 3 1 u0 (Pure.un acc x.next).length (natCells (Pure.un acc x.next))):=own_mono hu HB.out.size;have I3:=hide (HIN.out.un XI.out);clear hb3 hu HO c0 cc rk;go_wp2;go_roundg (set.length-(k+1))
   case measure=>omega
   case rel=>exact⟨k+1,_,_,by omega,rfl,rfl,by go_num,I3.out,DR.out,B3.out,U3.out⟩
  ·have d1:=df_ (k:Int) (set.length:Int) (by omega)
   have e:k=set.length:=by omega
   have RES:Hid (Pure.behindR ps set=acc):=by
    have:=HF.out;rw [e,List.drop_length] at this;exact this.symm
   clear HF e;go_wp2;go_ret;exact⟨_,rfl,HB.out,by rw [RES.out];exact HO.out⟩
theorem taking_any (B g:Nat) (ps:List Pure.Pl) (ss:List Pure.St) (vp vs:Value) (ts:List (Pure.St × Value)) (vr:Value) (set:List Nat) (b:Nat) (w:World) (h:Fd B g ps ss vp vs ts w) (hl:ps.length≤1000) (hr:Nats w vr set) (hi:Pure.Inl ps.length set) (hb:b<256) :
  Calls Tryz.prog 117 #[.pointer (some ⟨g,0,none⟩),vr,.int .i64 b] w (RetNs (Pure.taking ps set b) w):=by
 obtain⟨av,cv,rfl,hv1,hv2,hv3⟩:=hr.form
 have H0:=hide h
 have HR:=hide hr
 have HI:=hide hi
 have il:=hi.len
 have B0:Hid (Below w.heap.size w (w.alloc (.cells #[] 3))):=bn_ _
 clear h hr hi
 go_enter Tryz.func117,Tryz.ntmps117
 go_wp2_with fail
 go_loopg [7,9,13] set.length (fun gk rv _ kv wx=>∃(k:Nat) (acc:List Nat) (r:Value),k≤set.length∧gk=set.length-k∧rv=r∧kv=.int .i64 k∧acc.length≤k∧acc++Pure.taking ps (set.drop k) b=Pure.taking ps set b∧Below w.heap.size w wx∧wx.ownsRow w.heap.size 3 1 r acc.length (natCells acc))
 case atStart=>exact⟨0,[],_,Nat.zero_le _,rfl,rfl,rfl,lr_,rfl,B0.out,own_none _ _ _⟩
 case round=>
  clear B0;obtain⟨k,acc,r,kl,rfl,rfl,rfl,accl,hf,hb,ho⟩:=hrel;have HF:=hide hf;have HB:=hide hb;have HO:=hide ho;obtain⟨ar,cr,rfl,_,_⟩:=own_fm ho;clear hf hb ho;by_cases hlt:k<set.length
  ·have d1:=dl_ (k:Int) (set.length:Int) (by omega)
   obtain⟨p,hp⟩:=gx_ set k hlt;have hpl:p<ps.length:=HI.out.2 p (List.mem_of_getElem? hp);obtain⟨x,hx⟩:=gx_ ps p hpl;have tkx:Pure.tk ps p b=x.takes b:=by unfold Pure.tk;rw [hx]
   have DR:acc++((if x.takes b=true then [p] else [])++Pure.taking ps (set.drop (k+1)) b)=Pure.taking ps set b:=by
    have:=HF.out;rw [List.drop_eq_getElem?_toList_append,hp] at this;rw [←this];congr 1;unfold Pure.taking;simp only [Option.toList,List.singleton_append,List.filter_cons,tkx];split <;> simp_all
   clear HF;have F1:=H0.out.below HB.out;obtain⟨gp,cap,an,nn,cn,ev,_,_,ct⟩:=F1.pl.get hx;subst ev;have c0:=bc_ 0 F1.fb rfl;have tb:=ct b hb;obtain⟨gr,er,_,rc⟩:=(HR.out.below HB.out).some (by omega);subst er;have rk:=rc k p hp;have wi:=wr_ (k:Int) (by omega) (by omega);have ik0:=nz_ p;have ik1:(p:Int)<(ps.length:Int):=by omega
   have ib0:=nz_ b;have ib1:(b:Int)<256:=by omega
   have sz:=HB.out.size;clear rc F1 hx hp tkx ct
   cases ht:x.takes b with
   | true=>
    rw [ht] at tb DR;rw [if_pos rfl] at DR;have DR:=hide DR
    go_wp2_with (at_builtin;go_must (refine wpList_append_nats rfl (.tmp 27) (.tmp 29) rfl w.heap.size _ acc [p] rfl (World.ownsRow.alloc HO.out _) (some ⟨wr.heap.size,0,none⟩) 1 1 rfl ⟨rfl,.inr ⟨_,rfl,fun j0 x0 h0=>cell_list3 (xs:=[.int .i64 (p:Int)]) rfl j0 _ (by cases j0 with | zero=>simp at h0;subst h0;rfl | succ j0=>simp at h0)⟩⟩ (by simp;omega) (by simp;omega) ?_);intro v2 w2 hown2 hgrow2)
    have hb2:Below w.heap.size w w2:=(HB.out.alloc sz _).grown hgrow2 (by simp;omega) (fun k' h=>(World.ownsRow.lt HO.out k' h).1)
    have D2:Hid ((acc++[p])++Pure.taking ps (set.drop (k+1)) b=Pure.taking ps set b):=by
     show _=_;rw [←DR.out];simp
    have L2:Hid ((acc++[p]).length≤k+1):=by show _≤_;simp;omega
    have O2:=hide hown2;clear hgrow2 hown2;go_roundg (set.length-(k+1))
    case measure=>omega
    case rel=>exact⟨k+1,acc++[p],_,by omega,rfl,rfl,by go_num,L2.out,D2.out,hb2,O2.out⟩
   | false=>
    rw [ht] at tb DR;rw [if_neg (by decide)] at DR;have DR:=hide DR;go_wp2;go_roundg (set.length-(k+1))
    case measure=>omega
    case rel=>exact⟨k+1,acc,_,by omega,rfl,rfl,by go_num,by omega,DR.out,HB.out,HO.out⟩
  ·have d1:=df_ (k:Int) (set.length:Int) (by omega)
   have e:k=set.length:=by omega
   have RES:Hid (Pure.taking ps set b=acc):=by
    have:=HF.out;rw [e,List.drop_length] at this;show _=_;rw [←this];exact List.append_nil _
   clear HF e;go_wp2;go_ret;exact⟨_,rfl,HB.out,by rw [RES.out];exact HO.out⟩
theorem few_any (B g:Nat) (ps:List Pure.Pl) (ss:List Pure.St) (vp vs:Value) (ts:List (Pure.St × Value)) (w:World) (h:Fd B g ps ss vp vs ts w) :
  Calls Tryz.prog 85 #[.pointer (some ⟨g,0,none⟩)] w (fun e w'=>w'=w∧e=.returned (.bool (decide (ss.length≤42)))):=by
 have c1:=bc_ 1 h.fb rfl
 obtain⟨av,cv,rfl,_,_⟩:=own_fm h.own
 rw [h.len] at c1
 clear h
 have d1:decide ((ss.length:Int)≤42)=decide (ss.length≤42):=by
  by_cases hk:ss.length≤42
  ·rw [decide_eq_true hk,decide_eq_true (by omega)]
  ·rw [decide_eq_false hk,decide_eq_false (by omega)]
 go_enter Tryz.func85,Tryz.ntmps85
 go_wp2
 go_ret
 exact⟨rfl,by rw [←d1];rfl⟩
def setZ:List Value:=.slice none 0 0::List.replicate 256 (Value.int .i64 0)
theorem setZ_length:setZ.length=257:=by unfold setZ;rw [List.length_cons,List.length_replicate]
theorem set_info:(Tryz.prog.info? 142).map (fun i=>(i.zero,i.size,i.bytes))=some (some (.agg setZ.toArray),257,2072):=by kernel_rfl
theorem set_zeroV (w:World):(zeroValue 142).run Tryz.prog w=.ok (.agg setZ.toArray) w:=by
 obtain⟨i,h1,h2,_⟩:=info_parts set_info
 simp [zeroValue,typeInfo,go_sem,h1,h2]
theorem set_size:(Tryz.prog.info? 142).map (·.size)=some 257:=by
 obtain⟨i,h1,_,h3,_⟩:=info_parts set_info
 rw [h1,Option.map_some,h3]
theorem set_built (a:Option Addr) (n c:Nat):Tryz.prog.built 142 [(0,.slice a n c)]=some ((Value.slice a n c)::List.replicate 256 (Value.int .i64 0)).toArray:=by kernel_rfl
theorem stC1_length {t:Pure.St × Value} (h:t.1.longer.length=256):(stC1 t).length=257:=by simp [stC1,natCells_length,h]
theorem stC_length (ts:List (Pure.St × Value)) (h:∀t∈ts,t.1.longer.length=256):(stC ts).length=ts.length*257:=by
 induction ts with
 | nil=>rfl
 | cons q r ih=>
  rw [stC_cons,List.length_append,ih (fun t ht=>h t (List.mem_cons_of_mem _ ht)),stC1_length (h q (List.mem_cons_self ..)),List.length_cons];omega
theorem stC_get {ts:List (Pure.St × Value)} (h:∀t∈ts,t.1.longer.length=256) {p j:Nat} {q:Pure.St × Value} (hp:ts[p]?=some q) (hj:j<257):(stC ts)[p*257+j]?=(stC1 q)[j]?:=by
 induction ts generalizing p with
 | nil=>simp at hp
 | cons z r ih=>
  rw [stC_cons];have hz:=stC1_length (h z (List.mem_cons_self ..))
  cases p with
  | zero=>
   rw [List.getElem?_cons_zero] at hp;cases hp;rw [Nat.zero_mul,Nat.zero_add,List.getElem?_append_left (by omega)]
  | succ p=>
   rw [List.getElem?_cons_succ] at hp;rw [List.getElem?_append_right (by omega),hz,show (p+1)*257+j-257=p*257+j by omega];exact ih (fun t ht=>h t (List.mem_cons_of_mem _ ht)) hp
theorem stC1_one {t:Pure.St × Value} {a:Option Addr} {n c:Nat} (h:t.2=.slice a n c):∀u∈stC1 t,u.oneCell'=true:=by
 intro u hu
 rcases List.mem_cons.1 hu with e | e
 ·rw [e,h];rfl
 ·simp only [natCells,List.mem_map] at e
  obtain⟨z,_,rfl⟩:=e;rfl
theorem Fd.get {B g:Nat} {ps:List Pure.Pl} {ss:List Pure.St} {vp vs:Value} {ts:List (Pure.St × Value)} {W:World} (h:Fd B g ps ss vp vs ts W) {k:Nat} {x:Pure.St} (hk:ss[k]?=some x) :
  ∃gs cap a n c,vs=.slice (some ⟨gs,0,none⟩) ss.length cap∧ts[k]?=some (x,.slice a n c)∧W.rangeAt gs (k*257) (stC1 (x,.slice a n c))∧Nats W (.slice a n c) x.places∧x.longer.length=256:=by
 rw [←h.ss,List.getElem?_map] at hk
 cases hq:ts[k]? with
 | none=>rw [hq] at hk;cases hk
 | some q=>
  rw [hq] at hk;simp only [Option.map_some,Option.some.injEq] at hk;subst hk;have hm:=List.mem_of_getElem? hq;have n1:=h.nx q hm;obtain⟨a,c,e1,_⟩:=n1.form;have kl:k<ts.length:=(List.getElem?_eq_some_iff.1 hq).1;obtain⟨gs,cap,ev,_,_⟩:=own_some h.own (by omega);have eq:q=(q.1,.slice a q.1.places.length c):=by rw [←e1]
  refine⟨gs,cap,a,q.1.places.length,c,by rw [ev,h.len],by rw [←eq],?_,by rw [←e1];exact n1,h.ln q hm⟩;intro j u hu;rw [←eq] at hu
  have hj:j<257:=by
   have:=(List.getElem?_eq_some_iff.1 hu).1;rwa [stC1_length (h.ln q hm)] at this
  have hc:=stC_get h.ln hq hj;rw [hu] at hc;have ho:=h.own;rw [ev] at ho;exact own_cell ho hc
structure Sk (B:Nat) (w w':World):Prop where
 lo:Below B w w'
 keep:∀(k:Nat) (cs:Array Value) (t:TypeId) (fr:Nat × Nat),w.heap[k]?=some (.cells cs t fr)→t≠189→t≠142→w'.heap[k]?=some (.cells cs t fr)
section
variable {B:Nat} {w w' w'':World}
theorem Sk.refl (B:Nat) (w:World):Sk B w w:=⟨Below.refl _ _,fun _ _ _ _ h _ _=>h⟩
theorem Sk.trans (h:Sk B w w') (h':Sk B w' w''):Sk B w w'':=⟨h.lo.trans h'.lo,fun k cs t fr hk h1 h2=>h'.keep k cs t fr (h.keep k cs t fr hk h1 h2) h1 h2⟩
theorem Sk.below (hB:B≤w.heap.size) (h:Below w.heap.size w w'):Sk B w w':=⟨h.mono hB,fun k cs t fr hk _ _=>by
 have hl:=(Array.getElem?_eq_some_iff.1 hk).1
 rw [h.block k hl]
 exact hk⟩
theorem Sk.grown {g t0:Nat} {xs:List Value} (hb:Blk w g t0 xs) (hg:B≤g) (ht:t0=189∨t0=142) (h:w.grownBy w' (some g)):Sk B w w':=by
 refine⟨(Below.refl _ _).grown h (by have:=blk_lt hb;omega) (fun k e=>by cases e;exact hg),fun k cs t fr hk h1 h2=>?_⟩
 have hl:=(Array.getElem?_eq_some_iff.1 hk).1
 rw [h.block k hl (fun e=>by
  cases e
  unfold Blk at hb;rw [hb] at hk;cases hk;rcases ht with ht | ht
  ·exact h1 ht
  ·exact h2 ht)]
 exact hk
theorem Sk.row {size n:Nat} {v:Value} {xs:List Value} (ho:w.ownsRow B 142 size v n xs) (hB:B≤w.heap.size) (h:w.grownBy w' v.ownBlock):Sk B w w':=by
 refine⟨(Below.refl _ _).grown h hB (fun k hk=>(World.ownsRow.lt ho k hk).1),fun k cs t fr hk h1 h2=>?_⟩
 have hl:=(Array.getElem?_eq_some_iff.1 hk).1
 rw [h.block k hl (fun e=>by
  rcases ho.2 with ⟨rfl,_⟩ | ⟨g,cap,cur,rfl,_,h4,_⟩
  ·cases e
  ·cases e
   rw [h4] at hk;cases hk
   exact h2 rfl)]
 exact hk
theorem Sk.blk {g t:Nat} {xs:List Value} (h:Sk B w w') (hb:Blk w g t xs) (h1:t≠189) (h2:t≠142):Blk w' g t xs:=h.keep g _ t _ hb h1 h2
theorem Sk.rows {B' t size n:Nat} {v:Value} {xs:List Value} (h:Sk B w w') (hn:w.ownsRow B' t size v n xs) (h1:t≠189) (h2:t≠142):w'.ownsRow B' t size v n xs:=by
 refine⟨hn.1,?_⟩
 rcases hn.2 with h0 | ⟨g,cap,cur,h3,h4,h5,h6⟩
 ·exact .inl h0
 ·exact .inr ⟨g,cap,cur,h3,h4,h.keep g _ _ _ h5 h1 h2,h6⟩
theorem Sk.nats {v:Value} {l:List Nat} (h:Sk B w w') (hn:Nats w v l):Nats w' v l:=h.rows hn (by decide) (by decide)
theorem Sk.plm {B':Nat} {v:Value} {ps:List Pure.Pl} (h:Sk B w w') (hn:Plm B' w v ps):Plm B' w' v ps:=by
 obtain⟨qs,k1,k2,k3⟩:=hn
 exact⟨qs,h.rows k1 (by decide) (by decide),k2,fun q hq=>h.nats (k3 q hq)⟩
theorem Sk.lm {B':Nat} {v:Value} {ls:List Pure.Lp} (h:Sk B w w') (hn:Lm B' w v ls):Lm B' w' v ls:=by
 obtain⟨qs,k1,k2,k3⟩:=hn
 exact⟨qs,h.rows k1 (by decide) (by decide),k2,fun q hq=>⟨(k3 q hq).1,(k3 q hq).2.1,h.nats (k3 q hq).2.2.1,h.nats (k3 q hq).2.2.2⟩⟩
end
theorem wpList_append_set {w:World} {ops:Array Oper} {rest:List Oper} {o:Oper} {a:Act} {Q:Exit→Act→World→Prop} (hgd:o.guard=none) (s x:Operand)
  (ho:o.op=.call { callee:=.builtin .append,args:=#[s,x],argTypes:=#[87,87] }) (base:Nat) (v:Value) (ts:List (Pure.St × Value)) (hs:a.eval s=v) (hown:w.ownsRow base 142 257 v ts.length (stC ts))
  (gx:Nat) (q:Pure.St × Value) (hx:a.eval x=.slice (some ⟨gx,0,none⟩) 1 1) (hb:Blk w gx 142 (stC1 q)) (hq:∀u∈stC1 q,u.oneCell'=true) (hq2:q.1.longer.length=256) (hlen:ts.length≤1000) (hbase:base≤w.heap.size)
  (h:∀v' w',w'.ownsRow base 142 257 v' (ts++[q]).length (stC (ts++[q]))→w.grownBy w' v.ownBlock→wpList Tryz.prog ops Q rest (a.put o.dst v') w'):wpList Tryz.prog ops Q (o::rest) a w:=by
 obtain⟨il,hil,hl0,hl1,hl2⟩:=info_parts set_info
 refine wpList_append_own _ hgd s x 87 ho base 142 il _ 257 2072 Tryz.underlying87 hil hl0 hl1 hl2 (by simp [Value.cells,setZ_length]) (by decide) v ts.length (stC ts) hs hown ⟨gx,0,none⟩ 1 1 (stC1 q) hx (by rw [stC1_length hq2]) ?_ hq (by unfold maxLen;omega) (by omega) hbase ?_
 ·intro j y hy
  have:=blk_cell hb hy;simpa [add_eq] using this
 ·intro v' w' h1 h2 _
  refine h v' w' ?_ h2;rw [List.length_append,stC_append];have e:stC [q]=stC1 q:=by simp [stC]
  rw [e];exact h1
theorem wpList_build1 {P:Program} {w:World} {ops:Array Oper} {rest:List Oper} {o:Oper} {a:Act} {Q:Exit→Act→World→Prop} (hgd:o.guard=none) (t:TypeId) (i:Nat) (x:Operand) (v:Value) (ho:o.op=.build t #[(i,x)]) (hx:a.eval x=v) (cells:Array Value) (hf:P.built t [(i,v)]=some cells)
  (h:wpList P ops Q rest (a.put o.dst (.agg cells)) w):wpList P ops Q (o::rest) a w:=
 wpList_plain hgd fun K hK=>by
  subst hx;have hr:=run_build (P:=P) w t #[(i,a.eval x)] cells hf;unfold Oper.wp execOp;simp only [ho,Sem.run_bind,List.map_toArray,List.map_cons,List.map_nil];rw [hr];exact hK _ _ h
theorem wpList_bs1 {P:Program} {w:World} {ops:Array Oper} {rest:List Oper} {o:Oper} {a:Act} {Q:Exit→Act→World→Prop} (hgd:o.guard=none) (t e:TypeId) (x:Operand) (c:List Value) (ho:o.op=.buildSlice t 1 #[(0,x)]) (hx:a.eval x=.agg c.toArray)
  (ie:TypeInfo) (z:List Value) (size:Nat) (hu:P.underlying t=some (.slice e)) (hie:P.info? e=some ie) (hz:ie.zero=some (.agg z.toArray)) (hs:ie.size=size) (_hzl:z.length=size) (hcl:c.length=size) (hsmall:¬1*size > 2 ^ 24) (hpos:¬1*size=0)
  (h:wpList P ops Q rest (a.put o.dst (.slice (some ⟨w.heap.size,0,none⟩) 1 1)) (w.alloc (.cells c.toArray e))):wpList P ops Q (o::rest) a w:=
 wpList_plain hgd fun K hK=>by
  refine wp_buildSlice1 t e 0 x (.agg c.toArray) ho hx c.toArray ie _ size hu hie hz hs hsmall hpos ?_ (hK _ _ h);rw [range_map];have:=fill_one (fun i=>some (i*size,size)) c ((List.range (1*size)).map fun x=>((Value.agg z.toArray).cells)[x % (Value.agg z.toArray).cells.size]!) (by rw [hcl];simp) (by rw [hcl,List.length_map,List.length_range];omega);rw [hcl,List.drop_of_length_le (by rw [List.length_map,List.length_range];omega),List.append_nil] at this;exact this
namespace Pure
theorem idxSt_drop (t:List Nat) (ss:List St):∀(k:Nat) (x:St),ss[k]?=some x→idxSt t (ss.drop k)=if x.places=t then 0 else idxSt t (ss.drop (k+1))+1:=by
 intro k x h
 rw [List.drop_eq_getElem?_toList_append,h]
 rfl
theorem idxSt_le (t:List Nat):∀ss:List St,idxSt t ss≤ss.length:=by
 intro ss
 induction ss with
 | nil=>exact lr_
 | cons s r ih=>
  unfold idxSt;split
  ·exact Nat.zero_le _
  ·simp;exact ih
end Pure
def RetNum (B g:Nat) (ps:List Pure.Pl) (ss':List Pure.St) (n:Nat) (w:World) (e:Ending) (w':World):Prop:=
 e=.returned (.int .i64 n)∧Sk B w w'∧∃vp vs ts,Fd B g ps ss' vp vs ts w'
theorem z256C:natCells Pure.z256=List.replicate 256 (Value.int .i64 0):=by
 unfold natCells Pure.z256
 rw [List.map_replicate]
 rfl
theorem stC1_new (l:List Nat) (v:Value):stC1 (⟨l,Pure.z256⟩,v)=v::List.replicate 256 (Value.int .i64 0):=by
 unfold stC1
 rw [z256C]
theorem number_any (B g:Nat) (ps:List Pure.Pl) (ss:List Pure.St) (vp vs:Value) (ts:List (Pure.St × Value)) (vr:Value) (t:List Nat) (w:World) (h:Fd B g ps ss vp vs ts w) (hl:ss.length≤500) (hr:Nats w vr t) (hi:t.length≤1000) (hss:∀x∈ss,x.places.length≤1000) :
  Calls Tryz.prog 118 #[.pointer (some ⟨g,0,none⟩),vr] w (RetNum B g ps (Pure.numbSt ss t) (Pure.idxSt t ss) w):=by
 obtain⟨av,cv,rfl,hv1,hv2,hv3⟩:=hr.form
 obtain⟨as2,cs2,rfl,hs1,hs2⟩:=own_fm h.own
 obtain⟨is,his,hz0,hz1,hz2⟩:=info_parts set_info
 have hlen:=h.len
 have H0:=hide h
 have HR:=hide hr
 have HS:=hide hss
 have zv:=set_zeroV
 have BL:B≤w.heap.size:=by have:=h.up;have:=blk_lt h.fb;omega
 have c1:=bc_ 1 h.fb rfl
 rw [hlen] at c1
 clear h hr hss
 go_enter Tryz.func118,Tryz.ntmps118
 go_wp2_with fail
 clear c1
 go_loopg [5,6,12] ss.length (fun gk _ _ kv wx=>∃k:Nat,k≤ss.length∧gk=ss.length-k∧kv=.int .i64 k∧Pure.idxSt t ss=k+Pure.idxSt t (ss.drop k)∧Below w.heap.size w wx)
 case atStart=>exact⟨0,Nat.zero_le _,rfl,rfl,by simp,Below.refl _ _⟩
 case round=>
  obtain⟨k,kl,rfl,rfl,hf,hb⟩:=hrel;have HF:=hide hf;have HB:=hide hb;clear hf hb;by_cases hlt:k<ss.length
  ·have d1:=dl_ (k:Int) (ss.length:Int) (by omega)
   obtain⟨x,hx⟩:=gx_ ss k hlt;have hxl:=HS.out x (List.mem_of_getElem? hx);have F1:=H0.out.below HB.out;obtain⟨gs,cap,ax,nx,cx,ev,_,hrg,hn,hlg⟩:=F1.get hx;rw [←hlen] at ev;cases ev;have wi:=wr_ (k:Int) (by omega) (by omega);have ik0:=nz_ k;have ik1:(k:Int)<(ss.length:Int):=by omega
   have DR:=hide (Pure.idxSt_drop t ss k x hx);have BX0:Hid (Blk (wr.alloc (.cells setZ.toArray 142)) wr.heap.size 142 setZ):=heap_alloc_new _ _;have sl:(stC1 (x,.slice ax nx cx)).length=257:=stC1_length hlg;have B2:Hid (Below w.heap.size w (wr.alloc (.cells setZ.toArray 142))):=HB.out.alloc HB.out.size _;have B3:=hide (below_cells (g:=wr.heap.size) HB.out.size (stC1 (x,.slice ax nx cx)) 0 _ B2.out);have BX:=hide (blk_stored (stC1 (x,.slice ax nx cx)) BX0.out (by rw [setZ_length,sl]));have HRG:=hide hrg;have N1:=hide hn;clear hrg hn F1;go_upto_region 4 with (first | (refine wpList_load_mid rfl 142 (.tmp 15) rfl gs (k*257) rfl _ _ HRG.out Tryz.underlying142 rfl (by rw [sl];exact set_size) ?_) | (refine wpList_store_mid rfl 142 (.tmp 6) (.tmp 16) rfl wr.heap.size 0 (stC1 (x,.slice ax nx cx)).toArray rfl rfl (by have:=blk_there BX0.out;rw [setZ_length] at this;simpa [sl] using this) (by simp only [List.size_toArray,sl];exact set_size) (all_oneCell_toArray (stC1_one rfl)) ?_));have bw:Below wr.heap.size wr ((wr.alloc (.cells setZ.toArray 142)).setCells wr.heap.size 0 (stC1 (x,.slice ax nx cx))):=below_cells (g:=wr.heap.size) lr_ _ 0 _ ((Below.refl wr.heap.size wr).alloc lr_ _);have N2:=hide (N1.out.below bw);have R2:=hide (HR.out.below B3.out);have x0:=bc_ 0 BX.out rfl;clear bw N1 BX BX0 HRG B2;generalize (wr.alloc (.cells setZ.toArray 142)).setCells wr.heap.size 0 (stC1 (x,.slice ax nx cx))=W2 at *
   go_wp2_with fail
   refine (same_any _ _ x.places t W2 N2.out R2.out (by omega) (by omega)).mono ?_
   rintro e w3 ⟨rfl,hb3⟩;have B4:=hide (bel0 B3.out hb3);clear hb3 B3 N2 R2 x0;by_cases heq:x.places=t
   ·rw [decide_eq_true heq]
    have e0:=DR.out;rw [if_pos heq] at e0;have E1:Hid (Pure.idxSt t ss=k):=by show _=_;rw [HF.out,e0];rfl
    have E2:Hid (Pure.numbSt ss t=ss):=by show _=_;unfold Pure.numbSt;rw [E1.out,if_pos hlt]
    clear e0 DR HF heq;go_wp2;go_ret;refine⟨?_,.below BL B4.out,?_⟩
    ·rw [E1.out];rfl
    ·rw [E2.out];exact⟨_,_,_,H0.out.below B4.out⟩
   ·rw [decide_eq_false heq]
    have e0:=DR.out;rw [if_neg heq] at e0;have E1:Hid (Pure.idxSt t ss=(k+1:Nat)+Pure.idxSt t (ss.drop (k+1))):=by show _=_;rw [HF.out,e0];omega
    clear e0 DR HF heq;go_wp2;go_roundg (ss.length-(k+1))
    case measure=>omega
    case rel=>exact⟨k+1,by omega,rfl,by go_num,E1.out,B4.out⟩
  ·have d1:=df_ (k:Int) (ss.length:Int) (by omega)
   have e:k=ss.length:=by omega
   have E1:Hid (Pure.idxSt t ss=ss.length):=by
    have:=HF.out;rw [e,List.drop_length] at this;exact this
   have E2:Hid (Pure.numbSt ss t=ss++[⟨t,Pure.z256⟩]):=by show _=_;unfold Pure.numbSt;rw [E1.out,if_neg (by omega)]
   clear HF e;have F1:=hide (H0.out.below HB.out);have c1:=bc_ 1 F1.out.fb rfl;have f1:=blk_frozen F1.out.fb 1;rw [hlen] at c1;have hb2:=(Below.refl wr.heap.size wr).alloc lr_ (.cells (stC1 (⟨t,Pure.z256⟩,.slice av t.length cv)).toArray 142);have F2:=hide (F1.out.below hb2);have R2:=hide ((HR.out.below HB.out).below hb2);have BN:Hid (Blk (wr.alloc (.cells (stC1 (⟨t,Pure.z256⟩,.slice av t.length cv)).toArray 142)) wr.heap.size 142 (stC1 (⟨t,Pure.z256⟩,.slice av t.length cv))):=heap_alloc_new _ _;have B2:=hide (bel0 HB.out hb2);have SB:=hide (set_built av t.length cv);rw [←stC1_new t] at SB;have wn:Pure.z256.length=256:=by unfold Pure.z256;rw [List.length_replicate]
   have sl:(stC1 (⟨t,Pure.z256⟩,.slice av t.length cv)).length=257:=stC1_length wn;have sz2:=B2.out.size;have bb:B≤(wr.alloc (.cells (stC1 (⟨t,Pure.z256⟩,.slice av t.length cv)).toArray 142)).heap.size:=Nat.le_trans BL sz2;have gls:=blk_lt F1.out.fb;have gne:g≠wr.heap.size:=by omega
   clear hb2;go_upto_region 8 with (first | (refine wpList_build1 rfl 142 0 (.tmp 28) (.slice av t.length cv) rfl rfl _ SB.out ?_) | (refine wpList_bs1 rfl 87 142 (.tmp 29) (stC1 (⟨t,Pure.z256⟩,.slice av t.length cv)) rfl rfl is setZ 257 Tryz.underlying87 his hz0 hz1 setZ_length sl (by omega) (by omega) ?_) | (at_builtin;refine wpList_append_set rfl (.tmp 27) (.tmp 30) rfl B _ ts (by rw [←hlen];rfl) F2.out.own wr.heap.size (⟨t,Pure.z256⟩,.slice av t.length cv) rfl BN.out (stC1_one rfl) wn (by omega) bb ?_;intro v4 w4 hown4 hgrow4;obtain⟨a4,c4,rfl,_,_⟩:=own_fm hown4;have fb4:=row_far F2.out.own F2.out.fb (by decide) hgrow4;have k1:=blk_cell (j:=1) fb4 rfl;have kf1:=blk_frozen fb4 1;have FB4:=hide fb4;have HO4:=hide hown4;have HG4:=hide hgrow4;clear fb4 hown4 hgrow4 c1 f1));have l4:(ts++[((⟨t,Pure.z256⟩:Pure.St),Value.slice av t.length cv)]).length=ss.length+1:=by simp [hlen]
   have g5:=Lib.grownBy_setCell w4 g 1 (.slice a4 (ts++[((⟨t,Pure.z256⟩:Pure.St),Value.slice av t.length cv)]).length c4);have K4:=Sk.row F2.out.own bb HG4.out;have K5:=K4.trans (.grown FB4.out F2.out.up (.inl rfl) g5)
   have FD5:Hid (Fd B g ps (ss++[⟨t,Pure.z256⟩]) vp (.slice a4 (ts++[((⟨t,Pure.z256⟩:Pure.St),Value.slice av t.length cv)]).length c4) (ts++[(⟨t,Pure.z256⟩,.slice av t.length cv)]) (w4.setCell ⟨g,1,none⟩ (.slice a4 (ts++[((⟨t,Pure.z256⟩:Pure.St),Value.slice av t.length cv)]).length c4))):=by
    refine⟨blk_set FB4.out 1 _,F2.out.up,K5.plm F2.out.pl,row_apart HO4.out FB4.out (by decide) g5,by simp [F2.out.ss],fun q hq=>?_,fun q hq=>?_⟩
    ·rcases List.mem_append.1 hq with h | h
     ·exact K5.nats (F2.out.nx q h)
     ·simp at h
      subst h;exact K5.nats R2.out
    ·rcases List.mem_append.1 hq with h | h
     ·exact F2.out.ln q h
     ·simp at h
      subst h;exact wn
   have SK5:Hid (Sk B w (w4.setCell ⟨g,1,none⟩ (.slice a4 (ts++[((⟨t,Pure.z256⟩:Pure.St),Value.slice av t.length cv)]).length c4))):=(Sk.below BL B2.out).trans K5;rw [l4] at FD5 SK5;clear g5 K4 K5 HO4 HG4 F2 R2 BN B2 SB F1 FB4;generalize w4.setCell ⟨g,1,none⟩ (.slice a4 (ss.length+1) c4)=W5 at *;have q1:=bc_ 1 FD5.out.fb rfl;have ws:IntKind.i64.wrap ((ss.length:Int)+1-1)=(ss.length:Int):=by rw [wrap_in _ (by omega) (by omega)];omega
   clear k1 kf1;go_wp2;go_ret;exact⟨by rw [E1.out];rfl,SK5.out,by rw [E2.out];exact⟨_,_,_,FD5.out⟩⟩
end Go.Proofs.YtmccnmgaoppogaaGreat
