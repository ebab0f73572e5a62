/-
 The walks: a byte of each kind. (weirref)
 The walks: marks of a part of the document's pattern; the step of a set. (weirref)
 The walks: the step of a set. (weirref)
-/
import Derived.Test.YtmccnmgaoppogaaGreatHG
import Derived.Test.YtmccnmgaoppogaaGreatGB
import Derived.Test.YtmccnmgaoppogaaGreatHH
namespace Go.Proofs.YtmccnmgaoppogaaGreat
set_option maxRecDepth 100000
set_option maxHeartbeats 8000000
open Go.RowKit
namespace Pure
theorem repsN_lt (ns:List Nd):∀c,∀d∈repsN ns c,d<c:=by
 intro c
 induction c with
 | zero=>intro d hd;simp [repsN] at hd
 | succ c ih=>
  intro d hd;unfold repsN at hd;split at hd
  ·have:=ih d hd;omega
  ·rcases List.mem_append.1 hd with k | k
   ·have:=ih d k;omega
   ·simp at k;omega
theorem repsN_len (ns:List Nd):∀c,(repsN ns c).length≤c:=by
 intro c
 induction c with
 | zero=>simp [repsN]
 | succ c ih=>
  rw [repsN_succ];split
  ·omega
  ·simp;omega
theorem repsN_pos (ns:List Nd):∀c,0<c→0<(repsN ns c).length:=by
 intro c
 induction c with
 | zero=>intro h;omega
 | succ c ih=>
  intro _;rw [repsN_succ];split
  ·rename_i h
   by_cases e:c=0
   ·subst e;simp [oldN,repsN] at h
   ·exact ih (by omega)
  ·simp
theorem oldN_take {ns:List Nd} {R:List Nat} {k c:Nat} (h:oldN ns (R.take k) c=true):oldN ns R c=true:=by
 unfold oldN at *
 rw [List.any_eq_true] at *
 obtain⟨d,hd,e⟩:=h
 exact⟨d,List.mem_of_mem_take hd,e⟩
theorem oldN_next {ns:List Nd} {R:List Nat} {k c d:Nat} (hk:R[k]?=some d) (h:oldN ns (R.take k) c=false):oldN ns (R.take (k+1)) c=sameN ns c d:=by
 rw [List.take_add_one,hk]
 unfold oldN at *
 rw [List.any_append,h]
 simp
theorem sameN_take {ns:List Nd} {n c d:Nat} (h:sameN (ns.take n) c d=false):sameN ns c d=false:=by
 unfold sameN at *
 rw [List.all_eq_false] at *
 obtain⟨x,hx,e⟩:=h
 exact⟨x,List.mem_of_mem_take hx,e⟩
theorem sameN_next {ns:List Nd} {n c d:Nat} {x:Nd} (hk:ns[n]?=some x) (h:sameN (ns.take n) c d=true):sameN (ns.take (n+1)) c d=(decide (x.kind≠1) || decide (x.inn c=x.inn d)):=by
 rw [List.take_add_one,hk]
 unfold sameN at *
 rw [List.all_append,h]
 simp
end Pure
theorem own_drewM {w:World} {base e size n:Nat} {v:Value} {xs:List Value} (h:w.ownsRow base e size v n xs) (m:Nat):(w.drewN m).ownsRow base e size v n xs:=h
theorem Dr.cell {B g i:Nat} {s:ByteArray} {ns:List Pure.Nd} {al:Option Addr} {m cap:Nat} {vl:Value} {modes down:Int} {W:World} (h:Dr B g s i ns (.slice al m cap) vl modes down W) {p:Nat} {x:Pure.Nd} (hp:ns[p]?=some x) :
  ∃gn,al=some ⟨gn,0,none⟩∧m=ns.length∧W.cell? ⟨gn,p*259,none⟩=some (.int .i64 (x.kind:Int))∧∀c,c<256→W.cell? ⟨gn,p*259+3+c,none⟩=some (.bool (x.inn c)):=by
 obtain⟨gn,cap',e,hr⟩:=h.get hp
 cases e
 have h0:W.cell? ⟨gn,p*259+0,none⟩=some (.int .i64 (x.kind:Int)):=hr 0 (.int .i64 (x.kind:Int)) (by show (_::_)[0]?=_;rw [List.getElem?_cons_zero])
 rw [Nat.add_zero] at h0
 refine⟨gn,rfl,rfl,h0,fun c hc=>?_⟩
 have:=hr (3+c) (.bool (x.inn c)) (by
  unfold ndC1;rw [show 3+c=c+1+1+1 by omega,List.getElem?_cons_succ,List.getElem?_cons_succ,List.getElem?_cons_succ]
  exact bitsL_get _ hc)
 rwa [←Nat.add_assoc] at this
theorem bytesOf_any (B g i:Nat) (s:ByteArray) (ns:List Pure.Nd) (vn vl:Value) (modes down:Int) (_hn:ns.length≤100000) (w:World) (hd:Dr B g s i ns vn vl modes down w) :
  Calls Tryz.prog 98 #[.pointer (some ⟨g,0,none⟩)] w (RetNs (Pure.repsN ns 256) w):=by
 obtain⟨an,cn,rfl,_,_⟩:=own_fm hd.own
 have HD:=hide hd
 clear hd
 go_enter Tryz.func98,Tryz.ntmps98
 go_wp2_with fail
 go_loopg [3,4,5,6,7,8] 256 (fun gk ov cv _ _ _ _ wx=>∃(c:Nat),c≤256∧gk=256-c∧cv=.int .i64 c∧Below w.heap.size w wx∧wx.ownsRow w.heap.size 3 1 ov (Pure.repsN ns c).length (natCells (Pure.repsN ns c)))
 case atStart=>exact⟨0,Nat.zero_le _,rfl,rfl,Below.refl _ _,own_nil _ _ _ _⟩
 case round=>
  obtain⟨c,cl,rfl,rfl,hb,ho⟩:=hrel;have HB:=hide hb;have HO:=hide ho;obtain⟨ar,cr,rfl,_,_⟩:=own_fm ho;have rl:=Pure.repsN_len ns c;have RLT:=hide (Pure.repsN_lt ns c);clear hb ho;generalize hR:Pure.repsN ns c=R at *;have HR:=hide hR;clear hR;by_cases hc:c<256
  ·have d1:decide ((c:Int)<256)=true:=decide_eq_true (by omega)
   have wc:=wr_ (c:Int) (by omega) (by omega);have ic0:=nz_ c;have ic1:(c:Int)<256:=by omega
   go_wp2_with fail
   go_loopg [5,6,7,8] R.length (fun gk oldv kv _ _ wx=>∃(k:Nat),k≤R.length∧gk=R.length-k∧kv=.int .i64 k∧oldv=.bool (Pure.oldN ns (R.take k) c)∧Below w.heap.size w wx∧wx.ownsRow w.heap.size 3 1 (.slice ar R.length cr) R.length (natCells R))
   case atStart=>exact⟨0,Nat.zero_le _,rfl,rfl,rfl,HB.out,HO.out⟩
   case round=>
    clear HB HO;obtain⟨k,kl,rfl,rfl,rfl,hb,ho⟩:=hrel;have HB2:=hide hb;have HO2:=hide ho;clear hb ho;by_cases hk:k<R.length
    ·have d2:=dl_ (k:Int) (R.length:Int) (by omega)
     have wk:=wr_ (k:Int) (by omega) (by omega);have ik0:=nz_ k;have ik1:(k:Int)<(R.length:Int):=by omega
     cases ek:Pure.oldN ns (R.take k) c with
     | true=>
      have eo:=Pure.oldN_take ek;clear ek
      have RN:Hid (Pure.repsN ns (c+1)=R):=by
       show _=_;rw [Pure.repsN_succ,HR.out,if_pos eo]
      clear eo HR;go_wp2;go_roundg (256-(c+1))
      case measure=>omega
      case rel=>exact⟨c+1,by omega,rfl,by go_num,HB2.out,by rw [RN.out];exact HO2.out⟩
     | false=>
      obtain⟨d,hd⟩:=gx_ R k hk;have hdl:d<256:=by have:=RLT.out d (List.mem_of_getElem? hd);omega
      have id0:=nz_ d;have id1:(d:Int)<256:=by omega
      have NX:=hide (Pure.oldN_next hd ek);have ND:=hide hd;clear ek hd
      go_wp2_with fail
      go_loopg [7,8] ns.length (fun gk sv nv wx=>∃(n:Nat),n≤ns.length∧gk=ns.length-n∧nv=.int .i64 n∧sv=.bool (Pure.sameN (ns.take n) c d)∧Below w.heap.size w wx∧wx.ownsRow w.heap.size 3 1 (.slice ar R.length cr) R.length (natCells R))
      case atStart=>exact⟨0,Nat.zero_le _,rfl,rfl,rfl,HB2.out,HO2.out⟩
      case round=>
       clear HB2 HO2;obtain⟨n,nl,rfl,rfl,rfl,hb,ho⟩:=hrel;have HB2:=hide hb;have HO2:=hide ho;have D2:=HD.out.below hb;have c1:=bc_ 1 D2.rb rfl;by_cases hlt:n<ns.length
       ·have d3:=dl_ (n:Int) (ns.length:Int) (by omega)
        cases es:Pure.sameN (ns.take n) c d with
        | false=>
         have RE:Hid (Pure.oldN ns (R.take (k+1)) c=false):=NX.out.trans (Pure.sameN_take es);clear es hb ho D2;go_wp2;go_roundg (R.length-(k+1))
         case measure=>omega
         case rel=>exact⟨k+1,by omega,rfl,by go_num,by rw [RE.out],HB2.out,HO2.out⟩
        | true=>
         obtain⟨x,hx⟩:=gx_ ns n hlt;have SN:=hide (Pure.sameN_next hx es);obtain⟨gn,e1,_,y0,yc⟩:=D2.cell hx;subst e1;have y1:=yc c hc;have y2:=yc d hdl;obtain⟨gr,cr',er,_,_⟩:=own_some ho (by omega);cases er;have rk:=own_cell ho (natCells_get ND.out);have in0:=nz_ n;have in1:(n:Int)<(ns.length:Int):=by omega
         have wn:=wr_ (n:Int) (by omega) (by omega);clear es hb ho D2 yc hx;have e2:decide ((x.kind:Int)=1)=decide (x.kind=1):=by rw [decide_eq_decide];omega
         by_cases ek:x.kind=1
         ·have ek':(x.kind:Int)=1:=by omega
          rw [ek'] at y0;have SN2:Hid (Pure.sameN (ns.take (n+1)) c d=decide (x.inn c=x.inn d)):=SN.out.trans (by rw [decide_eq_false (by simp [ek]),Bool.false_or]);clear SN ek ek' e2;generalize x.inn c=b1 at *;generalize x.inn d=b2 at *
          go_wp2_with fail
          go_quiet (fail);have dn:=hide (below_drewN HB2.out nq);have on:=hide (own_drewM HO2.out nq);have EQ:Hid ((b1 == b2)=Pure.sameN (ns.take (n+1)) c d):=by rw [SN2.out];cases b1 <;> cases b2 <;> rfl
          clear SN2;go_wp2;go_roundg (ns.length-(n+1))
          case measure=>omega
          case rel=>exact⟨n+1,by omega,rfl,by go_num,by rw [←EQ.out],dn.out,on.out⟩
         ·have ek':decide ((x.kind:Int)=1)=false:=decide_eq_false (by omega)
          have SN2:Hid (Pure.sameN (ns.take (n+1)) c d=true):=SN.out.trans (by rw [decide_eq_true (by simpa using ek),Bool.true_or]);have ek2:((x.kind:Int) == 1)=false:=by simp;omega
          have ek3:((x.kind:Int) != 1)=true:=by simp;omega
          have ek4:decide ((x.kind:Int)≠1)=true:=decide_eq_true (by omega);clear SN ek e2;generalize (x.kind:Int)=kv at *
          go_wp2_with fail
          go_quiet (fail);have dn:=hide (below_drewN HB2.out nq);have on:=hide (own_drewM HO2.out nq);go_wp2;go_roundg (ns.length-(n+1))
          case measure=>omega
          case rel=>exact⟨n+1,by omega,rfl,by go_num,by rw [SN2.out],dn.out,on.out⟩
       ·have d3:=df_ (n:Int) (ns.length:Int) (by omega)
        have e:n=ns.length:=by omega
        subst e;have RE:Hid (Pure.oldN ns (R.take (k+1)) c=Pure.sameN (ns.take ns.length) c d):=by rw [List.take_length];exact NX.out
        clear hb ho D2;go_wp2;go_roundg (R.length-(k+1))
        case measure=>omega
        case rel=>exact⟨k+1,by omega,rfl,by go_num,by rw [RE.out],HB2.out,HO2.out⟩
    ·have d2:=df_ (k:Int) (R.length:Int) (by omega)
     have e:k=R.length:=by omega
     subst e;rw [List.take_length]
     cases eo:Pure.oldN ns R c with
     | true=>
      skip
      have RN:Hid (Pure.repsN ns (c+1)=R):=by
       show _=_;rw [Pure.repsN_succ,HR.out,if_pos eo]
      clear eo HR;go_wp2;go_roundg (256-(c+1))
      case measure=>omega
      case rel=>exact⟨c+1,by omega,rfl,by go_num,HB2.out,by rw [RN.out];exact HO2.out⟩
     | false=>
      skip
      have RN:Hid (Pure.repsN ns (c+1)=R++[c]):=by
       show _=_;rw [Pure.repsN_succ,HR.out,if_neg (by rw [eo];simp)]
      clear eo HR;have sz:=HB2.out.size
      go_wp2_with (at_builtin;go_must (refine wpList_append_nats rfl (.tmp 73) (.tmp 75) rfl w.heap.size _ R [c] rfl (World.ownsRow.alloc HO2.out _) (some ⟨wr.heap.size,0,none⟩) 1 1 rfl ⟨rfl,.inr ⟨_,rfl,fun j0 x0 h0=>cell_list3 (xs:=[.int .i64 (c:Int)]) rfl j0 _ (by cases j0 with | zero=>simp at h0;subst h0;rfl | succ j0=>simp at h0)⟩⟩ (by simp;omega) (by simp;omega) ?_);intro v2 w2 hown2 hgrow2)
      have hb2:Below w.heap.size w w2:=(HB2.out.alloc sz _).grown hgrow2 (by simp;omega) (fun k' h=>(World.ownsRow.lt HO2.out k' h).1);have O2:=hide hown2;clear hgrow2 hown2;go_roundg (256-(c+1))
      case measure=>omega
      case rel=>exact⟨c+1,by omega,rfl,by go_num,hb2,by rw [RN.out];exact O2.out⟩
  ·have d1:decide ((c:Int)<256)=false:=decide_eq_false (by omega)
   have e:c=256:=by omega
   subst e;go_wp2;go_ret;exact⟨_,rfl,HB.out,by rw [HR.out];exact HO.out⟩
theorem RetMk.congr3 {e0:Bool} {f1 f2 f1' f2':Nat→Bool} {gg gr gf cap n:Nat} {gs:List Nat} {fo fo':Nat→Nat→Bool} {w w':World} {e:Ending} (h:RetMk e0 f1 f2 gg gr gf cap n gs fo w e w') (c1:∀k,f1 k=f1' k) (c2:∀k,f2 k=f2' k) (c3:∀i k,fo i k=fo' i k):RetMk e0 f1' f2' gg gr gf cap n gs fo' w e w':=by
 rw [show f1'=f1 from funext (fun k=>(c1 k).symm),show f2'=f2 from funext (fun k=>(c2 k).symm),show fo'=fo from funext (fun i=>funext (fun k=>(c3 i k).symm))]
 exact h
theorem marked_any (B g i:Nat) (s:ByteArray) (ns:List Pure.Nd) (vn vl:Value) (modes down:Int) (hn:ns.length≤100000) (gg gf cap:Nat) (gs:List Nat) (re:Pure.Re):∀(m:Nat) (fo:Nat→Nat→Bool) (w:World),Dr B g s i ns vn vl modes down w→Gf w gg g gf cap ns.length gs fo→Pure.At ns re m→
  Calls Tryz.prog 96 #[.pointer (some ⟨gg,0,none⟩),.int .i64 ((m+re.size-1:Nat):Int)] w (RetMk re.empt (Pure.fiN re m) (Pure.laN re m) gg g gf cap ns.length gs (fun a c=>fo a c || Pure.foN re m a c) w):=by
 induction re with
 | pl T=>
  intro m fo w hd hf hat;have hx:ns[m]?=some ⟨1,0,0,T⟩:=hat 0 _ rfl;rw [show m+(Pure.Re.pl T).size-1=m by simp only [Pure.Re.size];omega];refine (marked_pl B g i s ns vn vl modes down hn gg gf cap gs fo T m w hd hf hx).mono (fun e w' h=>?_);exact RetMk.congr3 h (fun k=>rfl) (fun k=>rfl) (fun a c=>by simp [Pure.foN])
 | cat a b iha ihb=>
  intro m fo w hd hf hat;obtain⟨ha,hb,hx⟩:=Pure.At.two hat;rw [show m+(Pure.Re.cat a b).size-1=m+a.size+b.size by simp only [Pure.Re.size];omega];refine (marked_cat B g i s ns vn vl modes down hn gg gf cap gs fo _ _ _ _ _ _ _ _ _ _ _ _ w hd hf hx (fun W d f=>iha m fo W d f ha) (fun W d f=>ihb (m+a.size) _ W d f hb)).mono (fun e w' h=>?_);exact RetMk.congr3 h (fun k=>rfl) (fun k=>rfl) (fun a c=>by simp [Pure.foN,Bool.or_assoc])
 | alt a b iha ihb=>
  intro m fo w hd hf hat;obtain⟨ha,hb,hx⟩:=Pure.At.two hat;rw [show m+(Pure.Re.alt a b).size-1=m+a.size+b.size by simp only [Pure.Re.size];omega];refine (marked_alt B g i s ns vn vl modes down hn gg gf cap gs fo _ _ _ _ _ _ _ _ _ _ _ _ w hd hf hx (fun W d f=>iha m fo W d f ha) (fun W d f=>ihb (m+a.size) _ W d f hb)).mono (fun e w' h=>?_);exact RetMk.congr3 h (fun k=>rfl) (fun k=>rfl) (fun a c=>by simp [Pure.foN,Bool.or_assoc])
 | star a ih=>
  intro m fo w hd hf hat;obtain⟨ha,hx⟩:=Pure.At.one hat;rw [show m+(Pure.Re.star a).size-1=m+a.size by simp only [Pure.Re.size];omega];refine (marked_un B g i s ns vn vl modes down hn gg gf cap gs fo _ _ _ _ _ _ _ _ w hd hf hx (.inl rfl) (fun W d f=>ih m fo W d f ha)).mono (fun e w' h=>?_);have:=RetMk.congr3 h (fun k=>rfl) (fun k=>rfl) (fo':=fun x c=>fo x c || Pure.foN (.star a) m x c) (fun a c=>by simp [Pure.foN,Bool.or_assoc]);rwa [show (a.empt || decide ((4:Nat)≠5))=(Pure.Re.star a).empt by simp [Pure.Re.empt]] at this
 | plus a ih=>
  intro m fo w hd hf hat;obtain⟨ha,hx⟩:=Pure.At.one hat;rw [show m+(Pure.Re.plus a).size-1=m+a.size by simp only [Pure.Re.size];omega];refine (marked_un B g i s ns vn vl modes down hn gg gf cap gs fo _ _ _ _ _ _ _ _ w hd hf hx (.inr (.inl rfl)) (fun W d f=>ih m fo W d f ha)).mono (fun e w' h=>?_);have:=RetMk.congr3 h (fun k=>rfl) (fun k=>rfl) (fo':=fun x c=>fo x c || Pure.foN (.plus a) m x c) (fun a c=>by simp [Pure.foN,Bool.or_assoc]);rwa [show (a.empt || decide ((5:Nat)≠5))=(Pure.Re.plus a).empt by simp [Pure.Re.empt]] at this
 | opt a ih=>
  intro m fo w hd hf hat;obtain⟨ha,hx⟩:=Pure.At.one hat;rw [show m+(Pure.Re.opt a).size-1=m+a.size by simp only [Pure.Re.size];omega];refine (marked_un B g i s ns vn vl modes down hn gg gf cap gs fo _ _ _ _ _ _ _ _ w hd hf hx (.inr (.inr rfl)) (fun W d f=>ih m fo W d f ha)).mono (fun e w' h=>?_);have:=RetMk.congr3 h (fun k=>rfl) (fun k=>rfl) (fo':=fun x c=>fo x c || Pure.foN (.opt a) m x c) (fun a c=>by simp [Pure.foN]);rwa [show (a.empt || decide ((6:Nat)≠5))=(Pure.Re.opt a).empt by simp [Pure.Re.empt]] at this
theorem Bl.congr {W:World} {g n:Nat} {f f':Nat→Bool} (h:Bl W g n f) (e:∀k,k<n→f k=f' k):Bl W g n f':=by
 unfold Bl at *
 rw [←bln_congr e]
 exact h
theorem Bl.set {W:World} {g n:Nat} {f:Nat→Bool} (h:Bl W g n f) (k:Nat) (b:Bool):Bl (W.setCell ⟨g,k,none⟩ (.bool b)) g n (setB f k b):=by
 have:=blk_set h k (.bool b)
 rw [bln_set] at this
 exact this
theorem below_set {B g k:Nat} {w W:World} {v:Value} (h:Below B w W) (hg:B≤g) (hs:B≤W.heap.size):Below B w (W.setCell ⟨g,k,none⟩ v):=
 h.grown (Lib.grownBy_setCell W g k v) hs (fun k' e=>by cases e;exact hg)
theorem step_any (B g i0:Nat) (s:ByteArray) (ns:List Pure.Nd) (vn vl:Value) (modes down:Int) (hn:ns.length≤100000) (gg gf cap gF gS:Nat) (gs:List Nat) (fo:Nat→Nat→Bool) (F S:Nat→Bool) (bg:Bool) (c:Nat) (hc:c<256) (w:World) (hd:Dr B g s i0 ns vn vl modes down w) (hf:Gf w gg g gf cap ns.length gs fo) (hF:Bl w gF ns.length F) (hS:Bl w gS ns.length S) :
  Calls Tryz.prog 99 #[.pointer (some ⟨gg,0,none⟩),rowV gF ns.length,rowV gS ns.length,.bool bg,.int .i64 (c:Int)] w (RetBl ns.length (Pure.stepN ns F fo S bg c) w):=by
 have hmk:=make_bool ns.length hn
 obtain⟨an,cn,rfl,_,_⟩:=own_fm hd.own
 have HD:=hide hd
 have HG:=hide hf
 have HF:=hide hF
 have HS:=hide hS
 have B0:Hid (Below w.heap.size w (w.alloc (.cells (bln ns.length (fun _=>false)).toArray 4))):=bn_ _
 have O0:Hid (Bl (w.alloc (.cells (bln ns.length (fun _=>false)).toArray 4)) w.heap.size ns.length (fun _=>false)):=heap_alloc_new _ _
 have c0:=bc_ 0 hf.b rfl
 have c1:=bc_ 1 hd.rb rfl
 clear hd hf hF hS
 go_enter Tryz.func99,Tryz.ntmps99
 go_wp2_with fail
 clear c0 c1 hmk
 go_loopg [12,13] ns.length (fun gk kv _ wx=>∃(k:Nat),k≤ns.length∧gk=ns.length-k∧kv=.int .i64 k∧Below w.heap.size w wx∧Bl wx w.heap.size ns.length (fun j=>decide (j<k) && Pure.stepN ns F fo S bg c j))
 case atStart=>exact⟨0,Nat.zero_le _,rfl,rfl,B0.out,O0.out.congr (fun k _=>by simp)⟩
 case round=>
  clear B0 O0;obtain⟨k,kl,rfl,rfl,hb,ho⟩:=hrel;have HB:=hide hb;have HO:=hide ho;by_cases hk:k<ns.length
  ·have d1:=dl_ (k:Int) (ns.length:Int) (by omega)
   have wk:=wr_ (k:Int) (by omega) (by omega);have ik0:=nz_ k;have ik1:(k:Int)<(ns.length:Int):=by omega
   have ic0:=nz_ c;have ic1:(c:Int)<256:=by omega
   obtain⟨x,hx⟩:=gx_ ns k hk;have D2:=HD.out.below hb;have G2:=HG.out.below hb;have c0:=bc_ 0 G2.b rfl;have c1:=bc_ 1 D2.rb rfl;obtain⟨gn,e1,_,y0,yc⟩:=D2.cell hx;subst e1;have y1:=yc c hc
   have TK:Hid (Pure.tkN ns k c=(decide (x.kind=1) && x.inn c)):=by
    show _=_;unfold Pure.tkN;rw [hx]
   have SKIP:Hid (Pure.tkN ns k c=false→Bl wr w.heap.size ns.length (fun j=>decide (j<k+1) && Pure.stepN ns F fo S bg c j)):=fun e=>HO.out.congr (fun j _=>by
    by_cases ej:j=k
    ·subst ej
     simp [Pure.stepN,e]
    ·rw [show decide (j<k+1)=decide (j<k) by rw [decide_eq_decide];omega])
   clear yc hx D2 ho;by_cases ek:x.kind=1
   ·have ek':(x.kind:Int)=1:=by omega
    rw [ek'] at y0
    cases ei:x.inn c with
    | false=>
     have R:=hide (SKIP.out (by rw [TK.out,ei,Bool.and_false]));rw [ei] at y1;clear SKIP TK ek ek' ei HO hb G2;go_wp2;go_roundg (ns.length-(k+1))
     case measure=>omega
     case rel=>exact⟨k+1,by omega,rfl,by go_num,HB.out,R.out⟩
    | true=>
     have T2:Hid (Pure.tkN ns k c=true):=by rw [TK.out,ei,decide_eq_true ek];rfl
     rw [ei] at y1;clear SKIP TK ek ek' ei;have co:=blk_cell HO.out (bln_get _ hk);have fr:=blk_frozen HO.out k;have sz:=HB.out.size;have cf:=blk_cell (blk_below HF.out hb (blk_lt HF.out)) (bln_get F hk)
     cases bg with
     | true=>
      have O2:Hid (Bl (wr.setCell ⟨w.heap.size,k,none⟩ (.bool (F k))) w.heap.size ns.length (fun j=>decide (j<k+1) && Pure.stepN ns F fo S true c j)):=(HO.out.set k (F k)).congr (fun j _=>by
       unfold setB;by_cases ej:j=k
       ·subst ej
        simp [Pure.stepN,T2.out]
       ·rw [if_neg ej,show decide (j<k+1)=decide (j<k) by rw [decide_eq_decide];omega])
      have B2:=hide (below_set (k:=k) (v:=.bool (F k)) hb lr_ sz);clear T2 HO hb G2;generalize F k=fk at *;go_wp2;go_roundg (ns.length-(k+1))
      case measure=>omega
      case rel=>exact⟨k+1,by omega,rfl,by go_num,B2.out,O2.out⟩
     | false=>
      clear hb G2 cf co fr
      go_wp2_with fail
      go_loopg [13] ns.length (fun gk iv wx=>∃(i:Nat),i≤ns.length∧gk=ns.length-i∧iv=.int .i64 i∧Below w.heap.size w wx∧Bl wx w.heap.size ns.length (fun j=>(decide (j<k) && Pure.stepN ns F fo S false c j) || (decide (j=k) && (List.range i).any (fun a=>S a && fo a k))))
      case atStart=>exact⟨0,Nat.zero_le _,rfl,rfl,HB.out,HO.out.congr (fun j _=>by simp)⟩
      case round=>
       clear HB HO c0 c1 y0 y1;obtain⟨i,il,rfl,rfl,hb,ho⟩:=hrel;have HB:=hide hb;have HO:=hide ho;have sz:=HB.out.size;have VAL:Hid (∀i,((decide (k<k) && Pure.stepN ns F fo S false c k) || (decide (k=k) && (List.range i).any (fun a=>S a && fo a k)))=(List.range i).any (fun a=>S a && fo a k)):=fun i=>by simp
       have co:=blk_cell ho (bln_get _ hk);rw [VAL.out i] at co;have fr:=blk_frozen ho k
       have DONE:Hid ((List.range i).any (fun a=>S a && fo a k)=(List.range ns.length).any (fun a=>S a && fo a k)→Bl wr w.heap.size ns.length (fun j=>decide (j<k+1) && Pure.stepN ns F fo S false c j)):=fun e=>HO.out.congr (fun j _=>by
        by_cases ej:j=k
        ·subst ej
         rw [e];simp [Pure.stepN,T2.out]
        ·rw [show decide (j<k+1)=decide (j<k) by rw [decide_eq_decide];omega,decide_eq_false ej,Bool.false_and,Bool.or_false])
       by_cases hi:i<ns.length
       ·have d2:=dl_ (i:Int) (ns.length:Int) (by omega)
        cases ea:(List.range i).any (fun a=>S a && fo a k) with
        | true=>
         have R:=hide (DONE.out (by
          rw [ea];symm;rw [List.any_eq_true] at *;obtain⟨a,h1,h2⟩:=ea
          exact⟨a,List.mem_range.2 (by have:=List.mem_range.1 h1;omega),h2⟩))
         rw [ea] at co;clear DONE VAL HO ho hb ea T2;go_wp2;go_roundg (ns.length-(k+1))
         case measure=>omega
         case rel=>exact⟨k+1,by omega,rfl,by go_num,HB.out,R.out⟩
        | false=>
         rw [ea] at co;have G2:=HG.out.below hb;have cs:=blk_cell (blk_below HS.out hb (blk_lt HS.out)) (bln_get S hi);obtain⟨gi,hgi⟩:∃g,gs[i]?=some g:=⟨_,List.getElem?_eq_getElem (by rw [G2.len];exact hi)⟩;have c0:=bc_ 1 G2.b rfl;have cg:=own_cell G2.own (blsC_get hgi);have cr:=blk_cell (G2.row i gi hgi) (bln_get _ hk);have wi:=wr_ (i:Int) (by omega) (by omega);have ii0:=nz_ i;have ii1:(i:Int)<(ns.length:Int):=by omega
         have O2:Hid (Bl (wr.setCell ⟨w.heap.size,k,none⟩ (.bool (S i && fo i k))) w.heap.size ns.length (fun j=>(decide (j<k) && Pure.stepN ns F fo S false c j) || (decide (j=k) && (List.range (i+1)).any (fun a=>S a && fo a k)))):=(HO.out.set k (S i && fo i k)).congr (fun j _=>by
          unfold setB;by_cases ej:j=k
          ·subst ej
           rw [if_pos rfl,List.range_succ,List.any_append,ea];simp
          ·rw [if_neg ej];simp [ej])
         have B2:=hide (below_set (k:=k) (v:=.bool (S i && fo i k)) hb lr_ sz);clear DONE VAL HO HB ho hb ea T2 G2
         cases eS:S i with
         | false=>
          rw [eS] at cs O2 B2;rw [Bool.false_and] at O2 B2;clear eS;go_wp2;go_roundg (ns.length-(i+1))
          case measure=>omega
          case rel=>exact⟨i+1,by omega,rfl,by go_num,B2.out,O2.out⟩
         | true=>
          rw [eS] at cs O2 B2;rw [Bool.true_and] at O2 B2;clear eS;go_wp2;go_roundg (ns.length-(i+1))
          case measure=>omega
          case rel=>exact⟨i+1,by omega,rfl,by go_num,B2.out,O2.out⟩
       ·have d2:=df_ (i:Int) (ns.length:Int) (by omega)
        have e:i=ns.length:=by omega
        have R:=hide (DONE.out (by rw [e]));clear DONE VAL HO ho hb T2 co;go_wp2;go_roundg (ns.length-(k+1))
        case measure=>omega
        case rel=>exact⟨k+1,by omega,rfl,by go_num,HB.out,R.out⟩
   ·have R:=hide (SKIP.out (by rw [TK.out,decide_eq_false ek,Bool.false_and]))
    have ek1:decide ((x.kind:Int)=1)=false:=decide_eq_false (by omega);have ek2:((x.kind:Int) == 1)=false:=by simp;omega
    have ek3:((x.kind:Int) != 1)=true:=by simp;omega
    have ek4:decide ((x.kind:Int)≠1)=true:=decide_eq_true (by omega);clear SKIP TK ek HO hb G2;generalize (x.kind:Int)=kv at *;go_wp2;go_roundg (ns.length-(k+1))
    case measure=>omega
    case rel=>exact⟨k+1,by omega,rfl,by go_num,HB.out,R.out⟩
  ·have d1:=df_ (k:Int) (ns.length:Int) (by omega)
   have R:Hid (Bl wr w.heap.size ns.length (Pure.stepN ns F fo S bg c)):=ho.congr (fun j hj=>by rw [decide_eq_true (by omega),Bool.true_and]);clear HO ho hb;go_wp2;go_ret;exact⟨_,rfl,HB.out,lr_,R.out⟩
end Go.Proofs.YtmccnmgaoppogaaGreat
