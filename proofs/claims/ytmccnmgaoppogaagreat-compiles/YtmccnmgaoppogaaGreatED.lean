/-
 The walks: what leads to what. (rules)
 The walks: parts joined. (rules)
 The walks: one part behind the other; a part again and again. (rules)
 The walks: atoms that are escapes. (rules)
-/
import Derived.Test.YtmccnmgaoppogaaGreatEC
namespace Go.Proofs.YtmccnmgaoppogaaGreat
set_option maxRecDepth 100000
set_option maxHeartbeats 8000000
open Go.RowKit
def RetLd (B g:Nat) (s:ByteArray) (i:Nat) (d:Bool) (ps:List Pure.Pl) (w:World) (e:Ending) (w':World):Prop:=
 e=.returned (.tuple #[])∧∃vp qs,Rk B w w'∧Rd B g s i ps d vp qs w'
section
variable {B g i:Nat} {s:ByteArray} {ps:List Pure.Pl} {d:Bool} {vp:Value} {qs:List (Pure.Pl × Value)} {W W':World}
theorem Rd.get (h:Rd B g s i ps d vp qs W) {p:Nat} {x:Pure.Pl} (hx:ps[p]?=some x):∃v,qs[p]?=some (x,v)∧Nats W v x.next:=by
 rw [←h.ps,List.getElem?_map] at hx
 cases hq:qs[p]? with
 | none=>rw [hq] at hx;cases hx
 | some q=>
  rw [hq] at hx;have e:q.1=x:=Option.some.inj hx;subst e;exact⟨q.2,rfl,h.nx q (List.mem_of_getElem? hq)⟩
theorem modify_set {α:Type} {l:List α} {p:Nat} {x:α} (f:α→α) (h:l[p]?=some x):l.modify p f=l.set p (f x):=by
 apply List.ext_getElem?
 intro j
 rw [List.getElem?_modify,List.getElem?_set]
 by_cases hj:p=j
 ·subst hj
  have hl:=(List.getElem?_eq_some_iff.1 h).1;rw [h];simp [hl]
 ·simp [hj]
theorem Rd.lead {gp cap:Nat} (h:Rd B g s i ps d (.slice (some ⟨gp,0,none⟩) qs.length cap) qs W) {p:Nat} {x:Pure.Pl} {v u:Value} (hx:qs[p]?=some (x,v)) {tl:List Nat} (hu:Nats W u (Pure.un x.next tl)) :
  Rd B g s i (Pure.lead1 tl ps p) d (.slice (some ⟨gp,0,none⟩) qs.length cap) (qs.set p ({ x with next:=Pure.un x.next tl },u)) (W.setCell ⟨gp,p*257+256,none⟩ u)∧Rk B W (W.setCell ⟨gp,p*257+256,none⟩ u):=by
 have ho:=own_set (j:=p*257+256) (u:=u) h.own
 have hg:=Lib.grownBy_setCell W gp (p*257+256) u
 have rk:Rk B W (W.setCell ⟨gp,p*257+256,none⟩ u):=Rk.row h.own h.lt hg
 rw [plC_set hx] at ho
 refine⟨⟨row_far h.own h.rb (by decide) hg,h.up,by rw [List.length_set];exact ho,?_,fun q hq=>?_⟩,rk⟩
 ·have hp:ps[p]?=some x:=by rw [←h.ps,List.getElem?_map,hx];rfl
  rw [List.map_set,h.ps];unfold Pure.lead1;rw [modify_set _ hp]
 ·rcases List.mem_or_eq_of_mem_set hq with k | k
  ·exact rk.nats (h.nx q k)
  ·subst k
   exact rk.nats hu
theorem Rd.some (h:Rd B g s i ps d vp qs W) (hl:0<qs.length):∃gp cap,vp=.slice (some ⟨gp,0,none⟩) qs.length cap∧qs.length≤cap∧cap≤9223372036854775807∧gp<W.heap.size:=by
 obtain⟨gp,cap,e,h1,h2⟩:=own_some h.own hl
 have:=h.own
 rw [e] at this
 exact⟨gp,cap,e,h1,h2,(own_base this).2⟩
end
theorem lead_any (B g i:Nat) (s:ByteArray) (ps:List Pure.Pl) (d:Bool) (vp:Value) (qs:List (Pure.Pl × Value)) (vf vt:Value) (fr tl:List Nat) (w:World) (h:Rd B g s i ps d vp qs w) (hok:Pure.PlsOK ps) (hl:ps.length≤1000) (hf:Nats w vf fr) (ht:Nats w vt tl) (h1:Pure.Inl ps.length fr) (h2:Pure.Inl ps.length tl) :
  Calls Tryz.prog 163 #[.pointer (some ⟨g,0,none⟩),vf,vt] w (RetLd B g s i d (Pure.leads fr tl ps) w):=by
 obtain⟨af,cf,rfl,f1,f2,f3⟩:=hf.form
 obtain⟨at2,ct,rfl,t1,t2,t3⟩:=ht.form
 have fl:=h1.len
 have tll:=h2.len
 have HF:=hide hf
 have HT:=hide ht
 have H1:=hide h1
 have H2:=hide h2
 have P0:Hid (∃vp qs,Rk B w w∧Rd B g s i (Pure.leads (fr.take 0) tl ps) d vp qs w∧Pure.PlsOK (Pure.leads (fr.take 0) tl ps)):=⟨vp,qs,Rk.refl _ _,h,hok⟩
 have HOK:=hide hok
 clear hf ht h h1 h2 hok
 go_enter Tryz.func163,Tryz.ntmps163
 go_wp2_with fail
 go_loopg [10] fr.length (fun gk kv wx=>∃k:Nat,k≤fr.length∧kv=.int .i64 k∧gk=fr.length-k∧∃vp qs,Rk B w wx∧Rd B g s i (Pure.leads (fr.take k) tl ps) d vp qs wx∧Pure.PlsOK (Pure.leads (fr.take k) tl ps))
 case atStart=>exact⟨0,Nat.zero_le _,rfl,rfl,P0.out⟩
 case round=>
  clear P0;obtain⟨k,hk,rfl,rfl,vp',qs',hrk,hrd,hok⟩:=hrel;by_cases hlt:k<fr.length
  ·have d1:=dl_ (k:Int) (fr.length:Int) (by omega)
   have wi:=wr_ (k:Int) (by omega) (by omega);obtain⟨p,hp⟩:=gx_ fr k hlt;have hpl:p<ps.length:=H1.out.2 p (List.mem_of_getElem? hp);have hlen:=Pure.leads_length (fr.take k) tl ps;obtain⟨x,hx⟩:∃x,(Pure.leads (fr.take k) tl ps)[p]?=some x:=⟨_,List.getElem?_eq_getElem (by rw [hlen];exact hpl)⟩;obtain⟨v,hq,hv⟩:=hrd.get hx;have ql:=hrd.len;rw [hlen] at ql;have hpq:p<qs'.length:=by omega
   obtain⟨gp,cap,rfl,c1,c2,c3⟩:=hrd.some (by omega);obtain⟨gf,ef,gl,gc⟩:=HF.out.some (by omega);subst ef;have hxi:=hok x (List.mem_of_getElem? hx);rw [hlen] at hxi;have xl:=hxi.len;obtain⟨av,cv,rfl,v1,v2,v3⟩:=hv.form;have UN:=hide (union_any _ _ x.next tl wr.drew (hv.below ((Below.refl _ _).drew)) ((hrk.nats HT.out).below ((Below.refl _ _).drew)) (by omega) (by omega))
   have e1:wr.cell? ⟨gf,k,none⟩=some (.int .i64 (p:Int)):=by
    have:=(hrk.nats HF.out);obtain⟨g',eg,_,gc'⟩:=this.some (by omega);cases eg;exact gc' k p hp
   have e2:=bc_ 2 hrd.rb rfl;have e3:wr.cell? ⟨gp,p*257+256,none⟩=some (.slice av x.next.length cv):=own_cell hrd.own (plC_next hq);have S1:wr.drew.cell? ⟨g,2,none⟩=some (.slice (some ⟨gp,0,none⟩) qs'.length cap):=e2;have ip0:=nz_ p;have ip1:(p:Int)<(qs'.length:Int):=by omega
   have ST:Hid (Pure.leads (fr.take (k+1)) tl ps=Pure.lead1 tl (Pure.leads (fr.take k) tl ps) p):=by
    show _=_;rw [List.take_add_one,hp];simp [Pure.leads]
   have RD:=hide hrd;have RK:=hide hrk;have OK:=hide hok;have HQ:=hide hq;have QL:=hide ql;have HLN:=hide hlen;clear hrd hrk hok hq hv gc hx hp hxi ql hlen
   go_wp2_with fail
   clear e1 e2;have e4:wr.drew.cell? ⟨gp,p*257+256,none⟩=some (.slice av x.next.length cv):=e3
   have ngp:g≠gp:=fun e=>by
    have hb:=RD.out.rb;have ho:=RD.out.own;rcases ho.2 with ⟨e0,_⟩ | ⟨g',cap',cur,e0,_,h4,_⟩
    ·cases e0
    ·cases e0
     unfold Rb Blk at hb;rw [e,h4] at hb;cases hb
   have AFT:Hid (∀w',Below wr.drew.heap.size wr.drew w'→w'.cell? ⟨g,2,none⟩=some (.slice (some ⟨gp,0,none⟩) qs'.length cap)∧w'.cell? ⟨gp,p*257+256,none⟩=some (.slice av x.next.length cv)∧w'.frozen? ⟨gp,p*257+256,none⟩=false∧∀v,(w'.setCell ⟨gp,p*257+256,none⟩ v).cell? ⟨g,2,none⟩=some (.slice (some ⟨gp,0,none⟩) qs'.length cap)):=fun w' hb=>by
    have r':=RD.out.below (Below.drew (Below.refl wr.heap.size wr));have r2:=r'.below hb;have a1:=bc_ 2 r2.rb rfl;refine⟨a1,own_cell r2.own (plC_next HQ.out),own_frozen r2.own _,fun v=>?_⟩;rw [World.cell?_setCell_other _ _ _ _ (by simp)];exact a1
   refine wp_region_held_drew (S:=fun w'=>w'.cell? ⟨g,2,none⟩=some (.slice (some ⟨gp,0,none⟩) qs'.length cap)) (by kernel_rfl) S1 (fun hHeld=>?_);refine wpAnyH_take (i:=0) (v:=?va0) rfl (by kernel_rfl) (by kernel_rfl) (by kernel_rfl) (fun _ _ _ h=>h) (Or.inl ⟨by rfl,?hya0⟩) (by assumption) ?resta0
   case hya0=>(intro w hSw;(try dsimp only at hSw);go_simp;try (with_reducible rfl))
   try simp only [Act.put,List.setIfInBounds_toArray]
   refine wpAnyH_take (i:=1) (v:=?va1) rfl (by kernel_rfl) (by kernel_rfl) (by kernel_rfl) (fun _ _ _ h=>h) (Or.inl ⟨by rfl,?hya1⟩) (by assumption) ?resta1
   case hya1=>(intro w hSw;(try dsimp only at hSw);go_simp;try (with_reducible rfl))
   try simp only [Act.put]
   refine wpAnyH_take (i:=2) (v:=?va2) rfl (by kernel_rfl) (by kernel_rfl) (by kernel_rfl) (fun _ _ _ h=>h) (Or.inl ⟨by rfl,?hya2⟩) (by assumption) ?resta2
   case hya2=>(intro w hSw;(try dsimp only at hSw);go_simp;try (with_reducible rfl))
   try simp only [Act.put]
   refine wpAnyH_take (i:=3) (v:=?va3) rfl (by kernel_rfl) (by kernel_rfl) (by kernel_rfl) (fun _ _ _ h=>h) (Or.inl ⟨by rfl,?hya3⟩) (by assumption) ?resta3
   case hya3=>(intro w hSw;(try dsimp only at hSw);go_simp;try (with_reducible rfl))
   try simp only [Act.put]
   refine wpAnyH_take (i:=4) (v:=?va4) rfl (by kernel_rfl) (by kernel_rfl) (by kernel_rfl) (fun _ _ _ h=>h) (Or.inl ⟨by rfl,?hya4⟩) (by assumption) ?resta4
   case hya4=>(intro w hSw;(try dsimp only at hSw);go_simp;try (with_reducible rfl))
   try simp only [Act.put]
   refine wpAnyH_take (i:=5) (v:=?va5) rfl (by kernel_rfl) (by kernel_rfl) (by kernel_rfl) (fun _ _ _ h=>h) (Or.inl ⟨by rfl,?hya5⟩) (by assumption) ?resta5
   case hya5=>(intro w hSw;(try dsimp only at hSw);go_simp;try (with_reducible rfl))
   try simp only [Act.put]
   refine wpAnyH_take (i:=6) (v:=?va6) rfl (by kernel_rfl) (by kernel_rfl) (by kernel_rfl) (fun _ _ _ h=>h) (Or.inl ⟨by rfl,?hya6⟩) (by assumption) ?resta6
   case hya6=>(intro w hSw;(try dsimp only at hSw);go_simp;try (with_reducible rfl))
   try simp only [Act.put]
   refine wpAnyH_take (i:=7) (v:=?va7) rfl (by kernel_rfl) (by kernel_rfl) (by kernel_rfl) (fun _ _ _ h=>h) (Or.inl ⟨by rfl,?hya7⟩) (by assumption) ?resta7
   case hya7=>(intro w hSw;(try dsimp only at hSw);go_simp;try (with_reducible rfl))
   try simp only [Act.put]
   refine wpAnyH_take (i:=8) (v:=?va8) rfl (by kernel_rfl) (by kernel_rfl) (by kernel_rfl) (fun _ _ _ h=>h) (Or.inl ⟨by rfl,?hya8⟩) (by assumption) ?resta8
   case hya8=>(intro w hSw;(try dsimp only at hSw);go_simp;try (with_reducible rfl))
   try simp only [Act.put]
   refine wpAnyH_take (i:=9) (v:=?va9) rfl (by kernel_rfl) (by kernel_rfl) (by kernel_rfl) (fun _ _ _ h=>h) (Or.inl ⟨by rfl,?hya9⟩) (by assumption) ?resta9
   case hya9=>(intro w hSw;(try dsimp only at hSw);go_simp;try (with_reducible rfl))
   try simp only [Act.put]
   refine wpAnyH_take (i:=10) (v:=?va10) rfl (by kernel_rfl) (by kernel_rfl) (by kernel_rfl) (fun _ _ _ h=>h) (Or.inl ⟨by rfl,?hya10⟩) (by assumption) ?resta10
   case hya10=>(intro w hSw;(try dsimp only at hSw);go_simp;try (with_reducible rfl))
   try simp only [Act.put]
   refine wpAnyH_take (i:=11) (v:=?va11) rfl (by kernel_rfl) (by kernel_rfl) (by kernel_rfl) (fun _ _ _ h=>h) (Or.inl ⟨by rfl,?hya11⟩) (by assumption) ?resta11
   case hya11=>(intro w hSw;(try dsimp only at hSw);go_simp;try (with_reducible rfl))
   try simp only [Act.put]
   refine wpAnyH_take (i:=13) (v:=?va13) rfl (by kernel_rfl) (by kernel_rfl) (by kernel_rfl) (fun _ _ _ h=>h) (Or.inl ⟨by rfl,?hya13⟩) (by assumption) ?resta13
   case hya13=>(intro w hSw;(try dsimp only at hSw);go_simp;try (with_reducible rfl))
   try simp only [Act.put]
   refine wpAnyH_ready (rs:=[12]) (by kernel_rfl) (by simp) ?_
   refine AllReadyH.cons rfl (fun K hK=>?_) AllReadyH.nil
   go_simp
   refine hK.out _ _ hHeld (fun hHeld2=>?_);clear hK K
   try simp only [Act.put,List.setIfInBounds_toArray]
   refine wpAnyH_ready (rs:=[14]) (by kernel_rfl) (by simp) ?_
   refine AllReadyH.cons rfl (fun K hK=>?_) AllReadyH.nil
   go_simp
   refine UN.out.mono ?_
   clear UN;rintro e w' ⟨u0,rfl,hb,hu⟩;obtain⟨au,cu,rfl,u1,u2⟩:=own_fm hu;have kS:=AFT.out w' hb;have kq:=kS.2.1;have kf:=kS.2.2.1;have B1:=hide hb;have U1:Hid (Nats w' (.slice au (Pure.un x.next tl).length cu) (Pure.un x.next tl)):=own_mono hu (Nat.zero_le _);clear hb hu AFT;refine hK.out _ _ kS.1 (fun hHeld3=>?_);clear hK K
   try simp only [Act.put,List.setIfInBounds_toArray]
   refine wpAnyH_take (i:=15) (v:=?vb15) rfl (by kernel_rfl) (by kernel_rfl) (by kernel_rfl) (fun _ _ _ h=>h) (Or.inl ⟨by rfl,?hyb15⟩) (by assumption) ?restb15
   case hyb15=>(intro w hSw;(try dsimp only at hSw);go_simp;try (with_reducible rfl))
   try simp only [Act.put,List.setIfInBounds_toArray]
   refine wpAnyH_take (i:=16) (v:=?vb16) rfl (by kernel_rfl) (by kernel_rfl) (by kernel_rfl) (fun _ _ _ h=>h) (Or.inl ⟨by rfl,?hyb16⟩) (by assumption) ?restb16
   case hyb16=>(intro w hSw;(try dsimp only at hSw);go_simp;try (with_reducible rfl))
   try simp only [Act.put]
   refine wpAnyH_ready (rs:=[17]) (by kernel_rfl) (by simp) ?_
   refine AllReadyH.cons rfl (fun K hK=>?_) AllReadyH.nil
   go_simp
   refine hK.out _ _ (kS.2.2.2 _) (fun hHeld4=>?_);clear hK K;refine wpAnyH_done (by kernel_rfl) ?_ _;have R2:=hide (((RD.out.below (Below.drew (Below.refl wr.heap.size wr))).below B1.out).lead HQ.out U1.out);have K2:Hid (Rk B w (w'.setCell ⟨gp,p*257+256,none⟩ (.slice au (Pure.un x.next tl).length cu))):=(RK.out.trans (.below RD.out.lt (bel0 (Below.drew (Below.refl wr.heap.size wr)) B1.out))).trans R2.out.2
   have OK2:Hid (Pure.PlsOK (Pure.leads (fr.take (k+1)) tl ps)):=by
    show Pure.PlsOK _;rw [ST.out];exact Pure.lead1_ok OK.out (by rw [HLN.out];exact H2.out)
   clear hHeld hHeld2 hHeld3 hHeld4 kS kq kf B1 U1;generalize w'.setCell ⟨gp,p*257+256,none⟩ (.slice au (Pure.un x.next tl).length cu)=W4 at *;go_wp2;go_roundg (fr.length-(k+1))
   case measure=>omega
   case rel=>exact⟨k+1,by omega,by go_num,rfl,_,_,K2.out,by rw [ST.out];exact R2.out.1,OK2.out⟩
  ·have d1:=df_ (k:Int) (fr.length:Int) (by omega)
   have e:k=fr.length:=by omega
   subst e;rw [List.take_length] at hrd;have RD:=hide hrd;have RK:=hide hrk;clear hrd hrk hok;go_wp2
   go_end0
   exact⟨rfl,_,_,RK.out,RD.out⟩
def Pm (W:World) (v:Value) (a:Pure.Pt):Prop:=∃af nf cf al nl cl,v=.agg #[.bool a.empty,.slice af nf cf,.slice al nl cl]∧Nats W (.slice af nf cf) a.first∧Nats W (.slice al nl cl) a.last
theorem three_blocksP (w:World) (t:Nat) (c1 c2 c3:List Value) :
  Blk (((w.alloc (.cells c1.toArray t)).alloc (.cells c2.toArray t)).alloc (.cells c3.toArray t)) w.heap.size t c1∧Blk (((w.alloc (.cells c1.toArray t)).alloc (.cells c2.toArray t)).alloc (.cells c3.toArray t)) (w.heap.size+1) t c2∧Blk (((w.alloc (.cells c1.toArray t)).alloc (.cells c2.toArray t)).alloc (.cells c3.toArray t)) (w.heap.size+1+1) t c3:=by
 have h1:=heap_alloc_new w (.cells c1.toArray t)
 have h2:=heap_alloc_new (w.alloc (.cells c1.toArray t)) (.cells c2.toArray t)
 rw [World.size_alloc] at h2
 have h3:=heap_alloc_new ((w.alloc (.cells c1.toArray t)).alloc (.cells c2.toArray t)) (.cells c3.toArray t)
 rw [World.size_alloc,World.size_alloc] at h3
 exact⟨blk_alloc (blk_alloc h1 _) _,blk_alloc h2 _,h3⟩
theorem RetPt.pm {B g i:Nat} {s:ByteArray} {d:Bool} {r:Pure.Pt × List Pure.Pl} {w w':World} {e:Ending} (h:RetPt B g s i d r w e w'):∃v vp qs,e=.returned v∧Pm w' v r.1∧Rk B w w'∧Rd B g s i r.2 d vp qs w':=by
 obtain⟨vf,vl,vp,qs,rfl,h1,h2,h3,h4⟩:=h
 obtain⟨af,cf,rfl,_⟩:=h3.form
 obtain⟨al,cl,rfl,_⟩:=h4.form
 exact⟨_,vp,qs,rfl,⟨_,_,_,_,_,_,rfl,h3,h4⟩,h1,h2⟩
theorem Pm.rk {B:Nat} {w w':World} {v:Value} {a:Pure.Pt} (h:Pm w v a) (hk:Rk B w w'):Pm w' v a:=by
 obtain⟨af,nf,cf,al,nl,cl,e,h1,h2⟩:=h
 exact⟨af,nf,cf,al,nl,cl,e,hk.nats h1,hk.nats h2⟩
theorem Pm.below {w w':World} {v:Value} {a:Pure.Pt} (h:Pm w v a) (hb:Below w.heap.size w w'):Pm w' v a:=by
 obtain⟨af,nf,cf,al,nl,cl,e,h1,h2⟩:=h
 exact⟨af,nf,cf,al,nl,cl,e,h1.below hb,h2.below hb⟩
theorem Pm.grown {w w':World} {v:Value} {a:Pure.Pt} {g t:Nat} {xs:List Value} (h:Pm w v a) (hb:Blk w g t xs) (ht:t≠3) (hg:w.grownBy w' (some g)):Pm w' v a:=by
 obtain⟨af,nf,cf,al,nl,cl,e,h1,h2⟩:=h
 exact⟨af,nf,cf,al,nl,cl,e,nats_grown h1 hb ht hg,nats_grown h2 hb ht hg⟩
theorem either_any (va vb:Value) (a b:Pure.Pt) (w:World) (ha:Pm w va a) (hb:Pm w vb b) (n:Nat) (hn:n≤1000) (oa:Pure.PtOK n a) (ob:Pure.PtOK n b) :
  Calls Tryz.prog 151 #[va,vb] w (fun e w'=>∃v,e=.returned v∧Pm w' v (Pure.either a b)∧Below w.heap.size w w'):=by
 obtain⟨af,nf,cf,al,nl,cl,rfl,a1,a2⟩:=ha
 obtain⟨bf,mf,df,bl,ml,dl,rfl,b1,b2⟩:=hb
 have la:=oa.1.len
 have la':=oa.2.len
 have lb:=ob.1.len
 have lb':=ob.2.len
 obtain⟨ea,fa,la0⟩:=a
 obtain⟨eb,fb,lb0⟩:=b
 simp only at a1 a2 b1 b2 la la' lb lb'
 have A1:=hide a1
 have A2:=hide a2
 have B1:=hide b1
 have B2:=hide b2
 clear a1 a2 b1 b2 oa ob
 have TB:=hide (three_blocksP w 83 [.bool ea,.slice af nf cf,.slice al nl cl] [.bool eb,.slice bf mf df,.slice bl ml dl] [.bool false,.slice none 0 0,.slice none 0 0])
 have BE:Hid (Below w.heap.size w (((w.alloc (.cells #[.bool ea,.slice af nf cf,.slice al nl cl] 83)).alloc (.cells #[.bool eb,.slice bf mf df,.slice bl ml dl] 83)).alloc (.cells #[.bool false,.slice none 0 0,.slice none 0 0] 83))):=(((Below.refl w.heap.size w).alloc lr_ _).alloc (by simp) _).alloc (by simp;omega) _
 have x1:=bc_ 1 TB.out.1 rfl
 have x2:=bc_ 2 TB.out.1 rfl
 have y1:=bc_ 1 TB.out.2.1 rfl
 have y2:=bc_ 2 TB.out.2.1 rfl
 go_enter Tryz.func151,Tryz.ntmps151
 go_wp2_with fail
 generalize ((w.alloc (.cells #[.bool ea,.slice af nf cf,.slice al nl cl] 83)).alloc (.cells #[.bool eb,.slice bf mf df,.slice bl ml dl] 83)).alloc (.cells #[.bool false,.slice none 0 0,.slice none 0 0] 83)=W0 at *
 refine (union_any _ _ fa fb W0 (A1.out.below BE.out) (B1.out.below BE.out) (by omega) (by omega)).mono ?_
 clear x1 y1 x2 y2
 rintro e w1 ⟨u1,rfl,hb1,ho1⟩
 have T1:Hid (Blk w1 w.heap.size 83 [.bool ea,.slice af nf cf,.slice al nl cl]):=blk_below TB.out.1 hb1 (blk_lt TB.out.1)
 have T2:Hid (Blk w1 (w.heap.size+1) 83 [.bool eb,.slice bf mf df,.slice bl ml dl]):=blk_below TB.out.2.1 hb1 (blk_lt TB.out.2.1)
 have T3:Hid (Blk w1 (w.heap.size+1+1) 83 [.bool false,.slice none 0 0,.slice none 0 0]):=blk_below TB.out.2.2 hb1 (blk_lt TB.out.2.2)
 have BE1:=hide (bel0 BE.out hb1)
 obtain⟨au,cu,rfl,_,_⟩:=own_fm ho1
 have N1:Hid (Nats w1 (.slice au (Pure.un fa fb).length cu) (Pure.un fa fb)):=own_mono ho1 (Nat.zero_le _)
 clear hb1 ho1 TB BE
 have x2:=bc_ 2 T1.out rfl
 have y2:=bc_ 2 T2.out rfl
 go_wp2_with fail
 refine (union_any _ _ la0 lb0 w1 (A2.out.below BE1.out) (B2.out.below BE1.out) (by omega) (by omega)).mono ?_
 clear x2 y2
 rintro e w2 ⟨u2,rfl,hb2,ho2⟩
 have T1':=hide (blk_below T1.out hb2 (blk_lt T1.out))
 have T2':=hide (blk_below T2.out hb2 (blk_lt T2.out))
 have T3':=hide (blk_below T3.out hb2 (blk_lt T3.out))
 have BE2:=hide (bel0 BE1.out hb2)
 obtain⟨av,cv,rfl,_,_⟩:=own_fm ho2
 have N1':=hide (N1.out.below hb2)
 have N2:Hid (Nats w2 (.slice av (Pure.un la0 lb0).length cv) (Pure.un la0 lb0)):=own_mono ho2 (Nat.zero_le _)
 clear hb2 ho2 T1 T2 T3 BE1 N1
 have x0:=bc_ 0 T1'.out rfl
 have y0:=bc_ 0 T2'.out rfl
 have z0:=bc_ 0 T3'.out rfl
 have z1:=bc_ 1 T3'.out rfl
 have z2:=bc_ 2 T3'.out rfl
 have f0:=blk_frozen T3'.out 0
 have f1:=blk_frozen T3'.out 1
 have f2:=blk_frozen T3'.out 2
 have DONE:Hid (∀c:Bool,c=(ea || eb)→Blk (((w2.setCell ⟨w.heap.size+1+1,0,none⟩ (.bool c)).setCell ⟨w.heap.size+1+1,1,none⟩ (.slice au (Pure.un fa fb).length cu)).setCell ⟨w.heap.size+1+1,2,none⟩ (.slice av (Pure.un la0 lb0).length cv)) (w.heap.size+1+1) 83 [.bool c,.slice au (Pure.un fa fb).length cu,.slice av (Pure.un la0 lb0).length cv]∧Pm (((w2.setCell ⟨w.heap.size+1+1,0,none⟩ (.bool c)).setCell ⟨w.heap.size+1+1,1,none⟩ (.slice au (Pure.un fa fb).length cu)).setCell ⟨w.heap.size+1+1,2,none⟩ (.slice av (Pure.un la0 lb0).length cv)) (.agg #[.bool c,.slice au (Pure.un fa fb).length cu,.slice av (Pure.un la0 lb0).length cv]) (Pure.either ⟨ea,fa,la0⟩ ⟨eb,fb,lb0⟩)∧Below w.heap.size w (((w2.setCell ⟨w.heap.size+1+1,0,none⟩ (.bool c)).setCell ⟨w.heap.size+1+1,1,none⟩ (.slice au (Pure.un fa fb).length cu)).setCell ⟨w.heap.size+1+1,2,none⟩ (.slice av (Pure.un la0 lb0).length cv))):=fun c hc=>by
  have g5:=three_set w2 (w.heap.size+1+1) (.bool c) (.slice au (Pure.un fa fb).length cu) (.slice av (Pure.un la0 lb0).length cv);refine⟨three_blk T3'.out _ _ _,⟨_,_,_,_,_,_,by rw [hc];rfl,nats_grown N1'.out T3'.out (by decide) g5,nats_grown N2.out T3'.out (by decide) g5⟩,BE2.out.grown g5 BE2.out.size (fun k e=>by cases e;omega)⟩
 cases ea <;> cases eb
 all_goals
  go_wp2;obtain⟨q1,q2,q3⟩:=DONE.out _ rfl;have ld:=part_load q1;simp only [Bool.or_false,Bool.or_true] at ld;exact bodyPost_ret (by simp [results,Tryz.results151,asAddr,ld]) rfl ⟨_,rfl,q2,q3⟩
theorem two_blocksP (w:World) (t:Nat) (c1 c2:List Value) :
  Blk ((w.alloc (.cells c1.toArray t)).alloc (.cells c2.toArray t)) w.heap.size t c1∧Blk ((w.alloc (.cells c1.toArray t)).alloc (.cells c2.toArray t)) (w.heap.size+1) t c2:=by
 have h1:=heap_alloc_new w (.cells c1.toArray t)
 have h2:=heap_alloc_new (w.alloc (.cells c1.toArray t)) (.cells c2.toArray t)
 rw [World.size_alloc] at h2
 exact⟨blk_alloc h1 _,h2⟩
structure IT (B g:Nat) (s:ByteArray) (i:Nat) (d:Bool) (ps:List Pure.Pl) (w:World) (gA gB gR gW:Nat) (ea eb c:Bool) (vfa vla vfb vlb vf vl:Value) (fa la fb lb fl ll:List Nat) (W:World):Prop where
 a:Blk W gA 83 [.bool ea,vfa,vla]
 b:Blk W gB 83 [.bool eb,vfb,vlb]
 r:Blk W gR 83 [.bool false,.slice none 0 0,.slice none 0 0]
 m:Blk W gW 83 [.bool c,vf,vl]
 nfa:Nats W vfa fa
 nla:Nats W vla la
 nfb:Nats W vfb fb
 nlb:Nats W vlb lb
 nf:Nats W vf fl
 nl:Nats W vl ll
 rd:∃vp qs,Rd B g s i ps d vp qs W
 rk:Rk B w W
 ap:gA≠gW∧gB≠gW∧gR≠gW∧w.heap.size≤gW∧w.heap.size≤gR∧B≤w.heap.size
section
variable {B g:Nat} {s:ByteArray} {i:Nat} {d:Bool} {ps:List Pure.Pl} {w:World} {gA gB gR gW:Nat} {ea eb c:Bool} {vfa vla vfb vlb vf vl u:Value} {fa la fb lb fl ll ul:List Nat} {W W':World}
theorem IT.below (h:IT B g s i d ps w gA gB gR gW ea eb c vfa vla vfb vlb vf vl fa la fb lb fl ll W) (hb:Below W.heap.size W W'):IT B g s i d ps w gA gB gR gW ea eb c vfa vla vfb vlb vf vl fa la fb lb fl ll W':=by
 obtain⟨vp,qs,rd⟩:=h.rd
 exact⟨blk_below h.a hb (blk_lt h.a),blk_below h.b hb (blk_lt h.b),blk_below h.r hb (blk_lt h.r),blk_below h.m hb (blk_lt h.m),h.nfa.below hb,h.nla.below hb,h.nfb.below hb,h.nlb.below hb,h.nf.below hb,h.nl.below hb,⟨vp,qs,rd.below hb⟩,h.rk.trans (.below rd.lt hb),h.ap⟩
theorem IT.first (h:IT B g s i d ps w gA gB gR gW ea eb c vfa vla vfb vlb vf vl fa la fb lb fl ll W) (hu:Nats W u ul):IT B g s i d ps w gA gB gR gW ea eb c vfa vla vfb vlb u vl fa la fb lb ul ll (W.setCell ⟨gW,1,none⟩ u):=by
 obtain⟨vp,qs,rd⟩:=h.rd
 have hg:=Lib.grownBy_setCell W gW 1 u
 exact⟨blk_other h.a h.ap.1 _ _,blk_other h.b h.ap.2.1 _ _,blk_other h.r h.ap.2.2.1 _ _,blk_set h.m 1 u,nats_grown h.nfa h.m (by decide) hg,nats_grown h.nla h.m (by decide) hg,nats_grown h.nfb h.m (by decide) hg,nats_grown h.nlb h.m (by decide) hg,nats_grown hu h.m (by decide) hg,nats_grown h.nl h.m (by decide) hg,⟨vp,qs,rd.far h.m (by decide) (by decide) (by decide) hg⟩,h.rk.fresh hg h.ap.2.2.2.1 h.ap.2.2.2.2.2,h.ap⟩
theorem IT.last (h:IT B g s i d ps w gA gB gR gW ea eb c vfa vla vfb vlb vf vl fa la fb lb fl ll W) (hu:Nats W u ul):IT B g s i d ps w gA gB gR gW ea eb c vfa vla vfb vlb vf u fa la fb lb fl ul (W.setCell ⟨gW,2,none⟩ u):=by
 obtain⟨vp,qs,rd⟩:=h.rd
 have hg:=Lib.grownBy_setCell W gW 2 u
 exact⟨blk_other h.a h.ap.1 _ _,blk_other h.b h.ap.2.1 _ _,blk_other h.r h.ap.2.2.1 _ _,blk_set h.m 2 u,nats_grown h.nfa h.m (by decide) hg,nats_grown h.nla h.m (by decide) hg,nats_grown h.nfb h.m (by decide) hg,nats_grown h.nlb h.m (by decide) hg,nats_grown h.nf h.m (by decide) hg,nats_grown hu h.m (by decide) hg,⟨vp,qs,rd.far h.m (by decide) (by decide) (by decide) hg⟩,h.rk.fresh hg h.ap.2.2.2.1 h.ap.2.2.2.2.2,h.ap⟩
end
def RetPm (B g:Nat) (s:ByteArray) (i:Nat) (d:Bool) (r:Pure.Pt × List Pure.Pl) (w:World) (e:Ending) (w':World):Prop:=
 ∃v vp qs,e=.returned v∧Pm w' v r.1∧Rk B w w'∧Rd B g s i r.2 d vp qs w'
theorem inTurn_any (B g i:Nat) (s:ByteArray) (ps:List Pure.Pl) (d:Bool) (vp:Value) (qs:List (Pure.Pl × Value)) (va vb:Value) (a b:Pure.Pt) (w:World) (h:Rd B g s i ps d vp qs w) (hok:Pure.PlsOK ps) (hl:ps.length≤1000) (ha:Pm w va a) (hb:Pm w vb b) (oa:Pure.PtOK ps.length a) (ob:Pure.PtOK ps.length b) :
  Calls Tryz.prog 156 #[.pointer (some ⟨g,0,none⟩),va,vb] w (RetPm B g s i d (Pure.inTurn a b ps) w):=by
 obtain⟨af,nf,cf,al,nl,cl,rfl,a1,a2⟩:=ha
 obtain⟨bf,mf,df,bl,ml,dl,rfl,b1,b2⟩:=hb
 have la:=oa.1.len
 have la':=oa.2.len
 have lb:=ob.1.len
 have lb':=ob.2.len
 have OA:=hide oa
 have OB:=hide ob
 clear oa ob
 obtain⟨ea,fa,la0⟩:=a
 obtain⟨eb,fb,lb0⟩:=b
 simp only at a1 a2 b1 b2 la la' lb lb'
 have BL:=h.lt
 have TB:=hide (three_blocksP w 83 [.bool ea,.slice af nf cf,.slice al nl cl] [.bool eb,.slice bf mf df,.slice bl ml dl] [.bool false,.slice none 0 0,.slice none 0 0])
 have BE:Hid (Below w.heap.size w (((w.alloc (.cells #[.bool ea,.slice af nf cf,.slice al nl cl] 83)).alloc (.cells #[.bool eb,.slice bf mf df,.slice bl ml dl] 83)).alloc (.cells #[.bool false,.slice none 0 0,.slice none 0 0] 83))):=(((Below.refl w.heap.size w).alloc lr_ _).alloc (by simp) _).alloc (by simp;omega) _
 have H0:=hide (h.below BE.out)
 have A1:=hide (a1.below BE.out)
 have A2:=hide (a2.below BE.out)
 have B1:=hide (b1.below BE.out)
 have B2:=hide (b2.below BE.out)
 have OK:=hide hok
 have KB:Hid (Rk B w (((w.alloc (.cells #[.bool ea,.slice af nf cf,.slice al nl cl] 83)).alloc (.cells #[.bool eb,.slice bf mf df,.slice bl ml dl] 83)).alloc (.cells #[.bool false,.slice none 0 0,.slice none 0 0] 83))):=.below BL BE.out
 have x2:=bc_ 2 TB.out.1 rfl
 have y1:=bc_ 1 TB.out.2.1 rfl
 clear h hok a1 a2 b1 b2 BE
 go_enter Tryz.func156,Tryz.ntmps156
 go_wp2_with fail
 generalize ((w.alloc (.cells #[.bool ea,.slice af nf cf,.slice al nl cl] 83)).alloc (.cells #[.bool eb,.slice bf mf df,.slice bl ml dl] 83)).alloc (.cells #[.bool false,.slice none 0 0,.slice none 0 0] 83)=W0 at *
 refine (lead_any B g i s ps d vp qs _ _ la0 fb W0 H0.out OK.out hl A2.out B1.out OA.out.2 OB.out.1).mono ?_
 clear x2 y1
 rintro e w1 ⟨rfl,vp1,qs1,k1,r1⟩
 have XA:=hide (k1.blk TB.out.1 (by decide) (by decide))
 have XB:=hide (k1.blk TB.out.2.1 (by decide) (by decide))
 have XR:=hide (k1.blk TB.out.2.2 (by decide) (by decide))
 have la1:=blk_lt XA.out
 have lb1:=blk_lt XB.out
 have lr1:=blk_lt XR.out
 have I0:Hid (∀c:Bool,IT B g s i d (Pure.leads la0 fb ps) w w.heap.size (w.heap.size+1) (w.heap.size+1+1) w1.heap.size ea eb c (.slice af nf cf) (.slice al nl cl) (.slice bf mf df) (.slice bl ml dl) (.slice af nf cf) (.slice bl ml dl) fa la0 fb lb0 fa lb0 (w1.alloc (.cells #[.bool c,.slice af nf cf,.slice bl ml dl] 83))):=fun c=>by
  have hb:=(Below.refl w1.heap.size w1).alloc lr_ (.cells #[.bool c,.slice af nf cf,.slice bl ml dl] 83);exact⟨blk_below XA.out hb la1,blk_below XB.out hb lb1,blk_below XR.out hb lr1,heap_alloc_new _ _,(k1.nats A1.out).below hb,(k1.nats A2.out).below hb,(k1.nats B1.out).below hb,(k1.nats B2.out).below hb,(k1.nats A1.out).below hb,(k1.nats B2.out).below hb,⟨vp1,qs1,r1.below hb⟩,(KB.out.trans k1).trans (.below r1.lt hb),by omega,by omega,by omega,by omega,by omega,BL⟩
 clear TB H0 A1 A2 B1 B2 OK KB k1 r1 OA OB
 have x0:=bc_ 0 XA.out rfl
 have x1:=bc_ 1 XA.out rfl
 have y0:=bc_ 0 XB.out rfl
 have y2:=bc_ 2 XB.out rfl
 cases ea
 ·cases eb
  ·go_upto_region 3 with (fail)
   have I1:=hide (I0.out false);clear I0 x0 x1 y0 y2 XA XB XR;generalize w1.alloc (.cells #[.bool false,.slice af nf cf,.slice bl ml dl] 83)=W2 at *;generalize w1.heap.size=gW at *;have x0:=bc_ 0 I1.out.a rfl;go_upto_region 5 with (fail);clear x0;have y0:=bc_ 0 I1.out.b rfl;go_upto_region 7 with (fail);clear y0;have q0:=bc_ 0 I1.out.m rfl;have q1:=bc_ 1 I1.out.m rfl;have q2:=bc_ 2 I1.out.m rfl;have z0:=bc_ 0 I1.out.r rfl;have f0:=blk_frozen I1.out.r 0;have z1:=bc_ 1 I1.out.r rfl;have f1:=blk_frozen I1.out.r 1;have z2:=bc_ 2 I1.out.r rfl;have f2:=blk_frozen I1.out.r 2;go_wp2;have g5:=three_set W2 (w.heap.size+1+1) (.bool false) (.slice af nf cf) (.slice bl ml dl);have pb5:=three_blk I1.out.r (.bool false) (.slice af nf cf) (.slice bl ml dl);have ld:=part_load pb5;obtain⟨vp2,qs2,rd2⟩:=I1.out.rd;refine bodyPost_ret (v:=.agg #[.bool false,.slice af nf cf,.slice bl ml dl]) (by simp [results,Tryz.results156,asAddr,ld]) rfl ?_
   exact⟨_,_,_,rfl,⟨_,_,_,_,_,_,rfl,nats_grown I1.out.nf I1.out.r (by decide) g5,nats_grown I1.out.nl I1.out.r (by decide) g5⟩,I1.out.rk.fresh g5 I1.out.ap.2.2.2.2.1 BL,rd2.far I1.out.r (by decide) (by decide) (by decide) g5⟩
  ·go_upto_region 3 with (fail)
   have I1:=hide (I0.out false);clear I0 x0 x1 y0 y2 XA XB XR;generalize w1.alloc (.cells #[.bool false,.slice af nf cf,.slice bl ml dl] 83)=W2 at *;generalize w1.heap.size=gW at *;have x0:=bc_ 0 I1.out.a rfl;go_upto_region 5 with (fail);clear x0;have y0:=bc_ 0 I1.out.b rfl;have x2:=bc_ 2 I1.out.a rfl;have y2:=bc_ 2 I1.out.b rfl
   go_wp2_with fail
   refine (union_any _ _ la0 lb0 W2 I1.out.nla I1.out.nlb (by omega) (by omega)).mono ?_
   clear y0 x2 y2;rintro e w5 ⟨u1,rfl,hb5,ho5⟩;obtain⟨av,cv,rfl,_,_⟩:=own_fm ho5;have N5:Hid (Nats w5 (.slice av (Pure.un la0 lb0).length cv) (Pure.un la0 lb0)):=own_mono ho5 (Nat.zero_le _);have I4:=hide (I1.out.below hb5);clear hb5 ho5 I1;have m2:=bc_ 2 I4.out.m rfl;have mf2:=blk_frozen I4.out.m 2;go_upto_region 7 with (fail);have I5:=hide (I4.out.last N5.out);clear I4 N5 m2 mf2;generalize w5.setCell ⟨gW,2,none⟩ (.slice av (Pure.un la0 lb0).length cv)=W6 at *;have q0:=bc_ 0 I5.out.m rfl;have q1:=bc_ 1 I5.out.m rfl;have q2:=bc_ 2 I5.out.m rfl;have z0:=bc_ 0 I5.out.r rfl;have f0:=blk_frozen I5.out.r 0;have z1:=bc_ 1 I5.out.r rfl;have f1:=blk_frozen I5.out.r 1;have z2:=bc_ 2 I5.out.r rfl;have f2:=blk_frozen I5.out.r 2;go_wp2;have g5:=three_set W6 (w.heap.size+1+1) (.bool false) (.slice af nf cf) (.slice av (Pure.un la0 lb0).length cv);have pb5:=three_blk I5.out.r (.bool false) (.slice af nf cf) (.slice av (Pure.un la0 lb0).length cv);have ld:=part_load pb5;obtain⟨vp2,qs2,rd2⟩:=I5.out.rd;refine bodyPost_ret (v:=.agg #[.bool false,.slice af nf cf,.slice av (Pure.un la0 lb0).length cv]) (by simp [results,Tryz.results156,asAddr,ld]) rfl ?_
   exact⟨_,_,_,rfl,⟨_,_,_,_,_,_,rfl,nats_grown I5.out.nf I5.out.r (by decide) g5,nats_grown I5.out.nl I5.out.r (by decide) g5⟩,I5.out.rk.fresh g5 I5.out.ap.2.2.2.2.1 BL,rd2.far I5.out.r (by decide) (by decide) (by decide) g5⟩
 ·cases eb
  ·go_upto_region 3 with (fail)
   have I1:=hide (I0.out false);clear I0 x0 x1 y0 y2 XA XB XR;generalize w1.alloc (.cells #[.bool false,.slice af nf cf,.slice bl ml dl] 83)=W2 at *;generalize w1.heap.size=gW at *;have x0:=bc_ 0 I1.out.a rfl;have x1:=bc_ 1 I1.out.a rfl;have y1:=bc_ 1 I1.out.b rfl
   go_wp2_with fail
   refine (union_any _ _ fa fb W2 I1.out.nfa I1.out.nfb (by omega) (by omega)).mono ?_
   clear x0 x1 y1;rintro e w3 ⟨u0,rfl,hb3,ho3⟩;obtain⟨au,cu,rfl,_,_⟩:=own_fm ho3;have N3:Hid (Nats w3 (.slice au (Pure.un fa fb).length cu) (Pure.un fa fb)):=own_mono ho3 (Nat.zero_le _);have I2:=hide (I1.out.below hb3);clear hb3 ho3 I1;have m1:=bc_ 1 I2.out.m rfl;have mf1:=blk_frozen I2.out.m 1;go_upto_region 5 with (fail);have I3:=hide (I2.out.first N3.out);clear I2 N3 m1 mf1;generalize w3.setCell ⟨gW,1,none⟩ (.slice au (Pure.un fa fb).length cu)=W4 at *;have y0:=bc_ 0 I3.out.b rfl;go_upto_region 7 with (fail);clear y0;have q0:=bc_ 0 I3.out.m rfl;have q1:=bc_ 1 I3.out.m rfl;have q2:=bc_ 2 I3.out.m rfl;have z0:=bc_ 0 I3.out.r rfl;have f0:=blk_frozen I3.out.r 0;have z1:=bc_ 1 I3.out.r rfl;have f1:=blk_frozen I3.out.r 1;have z2:=bc_ 2 I3.out.r rfl;have f2:=blk_frozen I3.out.r 2;go_wp2;have g5:=three_set W4 (w.heap.size+1+1) (.bool false) (.slice au (Pure.un fa fb).length cu) (.slice bl ml dl);have pb5:=three_blk I3.out.r (.bool false) (.slice au (Pure.un fa fb).length cu) (.slice bl ml dl);have ld:=part_load pb5;obtain⟨vp2,qs2,rd2⟩:=I3.out.rd;refine bodyPost_ret (v:=.agg #[.bool false,.slice au (Pure.un fa fb).length cu,.slice bl ml dl]) (by simp [results,Tryz.results156,asAddr,ld]) rfl ?_
   exact⟨_,_,_,rfl,⟨_,_,_,_,_,_,rfl,nats_grown I3.out.nf I3.out.r (by decide) g5,nats_grown I3.out.nl I3.out.r (by decide) g5⟩,I3.out.rk.fresh g5 I3.out.ap.2.2.2.2.1 BL,rd2.far I3.out.r (by decide) (by decide) (by decide) g5⟩
  ·go_upto_region 3 with (fail)
   have I1:=hide (I0.out true);clear I0 x0 x1 y0 y2 XA XB XR;generalize w1.alloc (.cells #[.bool true,.slice af nf cf,.slice bl ml dl] 83)=W2 at *;generalize w1.heap.size=gW at *;have x0:=bc_ 0 I1.out.a rfl;have x1:=bc_ 1 I1.out.a rfl;have y1:=bc_ 1 I1.out.b rfl
   go_wp2_with fail
   refine (union_any _ _ fa fb W2 I1.out.nfa I1.out.nfb (by omega) (by omega)).mono ?_
   clear x0 x1 y1;rintro e w3 ⟨u0,rfl,hb3,ho3⟩;obtain⟨au,cu,rfl,_,_⟩:=own_fm ho3;have N3:Hid (Nats w3 (.slice au (Pure.un fa fb).length cu) (Pure.un fa fb)):=own_mono ho3 (Nat.zero_le _);have I2:=hide (I1.out.below hb3);clear hb3 ho3 I1;have m1:=bc_ 1 I2.out.m rfl;have mf1:=blk_frozen I2.out.m 1;go_upto_region 5 with (fail);have I3:=hide (I2.out.first N3.out);clear I2 N3 m1 mf1;generalize w3.setCell ⟨gW,1,none⟩ (.slice au (Pure.un fa fb).length cu)=W4 at *;have y0:=bc_ 0 I3.out.b rfl;have x2:=bc_ 2 I3.out.a rfl;have y2:=bc_ 2 I3.out.b rfl
   go_wp2_with fail
   refine (union_any _ _ la0 lb0 W4 I3.out.nla I3.out.nlb (by omega) (by omega)).mono ?_
   clear y0 x2 y2;rintro e w5 ⟨u1,rfl,hb5,ho5⟩;obtain⟨av,cv,rfl,_,_⟩:=own_fm ho5;have N5:Hid (Nats w5 (.slice av (Pure.un la0 lb0).length cv) (Pure.un la0 lb0)):=own_mono ho5 (Nat.zero_le _);have I4:=hide (I3.out.below hb5);clear hb5 ho5 I3;have m2:=bc_ 2 I4.out.m rfl;have mf2:=blk_frozen I4.out.m 2;go_upto_region 7 with (fail);have I5:=hide (I4.out.last N5.out);clear I4 N5 m2 mf2;generalize w5.setCell ⟨gW,2,none⟩ (.slice av (Pure.un la0 lb0).length cv)=W6 at *;have q0:=bc_ 0 I5.out.m rfl;have q1:=bc_ 1 I5.out.m rfl;have q2:=bc_ 2 I5.out.m rfl;have z0:=bc_ 0 I5.out.r rfl;have f0:=blk_frozen I5.out.r 0;have z1:=bc_ 1 I5.out.r rfl;have f1:=blk_frozen I5.out.r 1;have z2:=bc_ 2 I5.out.r rfl;have f2:=blk_frozen I5.out.r 2;go_wp2;have g5:=three_set W6 (w.heap.size+1+1) (.bool true) (.slice au (Pure.un fa fb).length cu) (.slice av (Pure.un la0 lb0).length cv);have pb5:=three_blk I5.out.r (.bool true) (.slice au (Pure.un fa fb).length cu) (.slice av (Pure.un la0 lb0).length cv);have ld:=part_load pb5;obtain⟨vp2,qs2,rd2⟩:=I5.out.rd;refine bodyPost_ret (v:=.agg #[.bool true,.slice au (Pure.un fa fb).length cu,.slice av (Pure.un la0 lb0).length cv]) (by simp [results,Tryz.results156,asAddr,ld]) rfl ?_
   exact⟨_,_,_,rfl,⟨_,_,_,_,_,_,rfl,nats_grown I5.out.nf I5.out.r (by decide) g5,nats_grown I5.out.nl I5.out.r (by decide) g5⟩,I5.out.rk.fresh g5 I5.out.ap.2.2.2.2.1 BL,rd2.far I5.out.r (by decide) (by decide) (by decide) g5⟩
theorem repeated_any (B g i:Nat) (s:ByteArray) (ps:List Pure.Pl) (d:Bool) (vp:Value) (qs:List (Pure.Pl × Value)) (va:Value) (a:Pure.Pt) (sign:Int) (w:World) (h:Rd B g s i ps d vp qs w) (hok:Pure.PlsOK ps) (hl:ps.length≤1000) (ha:Pm w va a) (oa:Pure.PtOK ps.length a) (hs:sign=42∨sign=43∨sign=63) :
  Calls Tryz.prog 162 #[.pointer (some ⟨g,0,none⟩),va,.int .i64 sign] w (RetPm B g s i d (Pure.repeated a sign ps) w):=by
 obtain⟨af,nf,cf,al,nl,cl,rfl,a1,a2⟩:=ha
 have OA:=hide oa
 clear oa
 obtain⟨ea,fa,la0⟩:=a
 simp only at a1 a2
 have BL:=h.lt
 have TB:=hide (two_blocksP w 83 [.bool ea,.slice af nf cf,.slice al nl cl] [.bool false,.slice none 0 0,.slice none 0 0])
 have BE:Hid (Below w.heap.size w ((w.alloc (.cells #[.bool ea,.slice af nf cf,.slice al nl cl] 83)).alloc (.cells #[.bool false,.slice none 0 0,.slice none 0 0] 83))):=((Below.refl w.heap.size w).alloc lr_ _).alloc (by simp) _
 have H0:=hide (h.below BE.out)
 have A1:=hide (a1.below BE.out)
 have A2:=hide (a2.below BE.out)
 have OK:=hide hok
 have KB:Hid (Rk B w ((w.alloc (.cells #[.bool ea,.slice af nf cf,.slice al nl cl] 83)).alloc (.cells #[.bool false,.slice none 0 0,.slice none 0 0] 83))):=.below BL BE.out
 clear h hok a1 a2 BE
 by_cases h63:sign=63
 ·subst h63
  go_enter Tryz.func162,Tryz.ntmps162;go_upto_region 3 with (fail);generalize (w.alloc (.cells #[.bool ea,.slice af nf cf,.slice al nl cl] 83)).alloc (.cells #[.bool false,.slice none 0 0,.slice none 0 0] 83)=W0 at *;have x0:=bc_ 0 TB.out.1 rfl;have x1:=bc_ 1 TB.out.1 rfl;have x2:=bc_ 2 TB.out.1 rfl;have z0:=bc_ 0 TB.out.2 rfl;have z1:=bc_ 1 TB.out.2 rfl;have z2:=bc_ 2 TB.out.2 rfl;have f0:=blk_frozen TB.out.2 0;have f1:=blk_frozen TB.out.2 1;have f2:=blk_frozen TB.out.2 2;have g5:=three_set W0 (w.heap.size+1) (.bool true) (.slice af nf cf) (.slice al nl cl);have pb5:=three_blk TB.out.2 (.bool true) (.slice af nf cf) (.slice al nl cl);have ld:=part_load pb5
  have KF:Hid (RetPm B g s i d (Pure.repeated ⟨ea,fa,la0⟩ 63 ps) w (.returned (.agg #[.bool true,.slice af nf cf,.slice al nl cl])) (((W0.setCell ⟨w.heap.size+1,0,none⟩ (.bool true)).setCell ⟨w.heap.size+1,1,none⟩ (.slice af nf cf)).setCell ⟨w.heap.size+1,2,none⟩ (.slice al nl cl))):=
   ⟨_,_,_,rfl,⟨_,_,_,_,_,_,by simp [Pure.repeated],nats_grown A1.out TB.out.2 (by decide) g5,nats_grown A2.out TB.out.2 (by decide) g5⟩,KB.out.fresh g5 (by omega) BL,by
    have:=H0.out.far TB.out.2 (by decide) (by decide) (by decide) g5
    simpa [Pure.repeated] using this⟩
  clear g5 pb5;cases ea
  all_goals
   go_wp2;exact bodyPost_ret (v:=.agg #[.bool true,.slice af nf cf,.slice al nl cl]) (by simp [results,Tryz.results162,asAddr,ld]) rfl KF.out
 ·have n63:(sign != 63)=true:=by simpa using h63
  have x1:=bc_ 1 TB.out.1 rfl;have x2:=bc_ 2 TB.out.1 rfl;go_enter Tryz.func162,Tryz.ntmps162
  go_wp2_with fail
  generalize (w.alloc (.cells #[.bool ea,.slice af nf cf,.slice al nl cl] 83)).alloc (.cells #[.bool false,.slice none 0 0,.slice none 0 0] 83)=W0 at *;refine (lead_any B g i s ps d vp qs _ _ la0 fa W0 H0.out OK.out hl A2.out A1.out OA.out.2 OA.out.1).mono ?_
  clear x1 x2;rintro e w1 ⟨rfl,vp1,qs1,k1,r1⟩;have XA:=hide (k1.blk TB.out.1 (by decide) (by decide));have XR:=hide (k1.blk TB.out.2 (by decide) (by decide));have N1:=hide (k1.nats A1.out);have N2:=hide (k1.nats A2.out);have R1:=hide r1;have K1:=hide (KB.out.trans k1);clear TB H0 A1 A2 OK KB k1 r1 OA;have x0:=bc_ 0 XA.out rfl;have x1:=bc_ 1 XA.out rfl;have x2:=bc_ 2 XA.out rfl;have z0:=bc_ 0 XR.out rfl;have z1:=bc_ 1 XR.out rfl;have z2:=bc_ 2 XR.out rfl;have f0:=blk_frozen XR.out 0;have f1:=blk_frozen XR.out 1;have f2:=blk_frozen XR.out 2
  have KF:Hid (∀c:Bool,c=(ea || decide (sign≠43))→(loadVar 83 ⟨w.heap.size+1,0,none⟩).run Tryz.prog (((w1.setCell ⟨w.heap.size+1,0,none⟩ (.bool c)).setCell ⟨w.heap.size+1,1,none⟩ (.slice af nf cf)).setCell ⟨w.heap.size+1,2,none⟩ (.slice al nl cl))=.ok (.agg #[.bool c,.slice af nf cf,.slice al nl cl]) (((w1.setCell ⟨w.heap.size+1,0,none⟩ (.bool c)).setCell ⟨w.heap.size+1,1,none⟩ (.slice af nf cf)).setCell ⟨w.heap.size+1,2,none⟩ (.slice al nl cl))∧RetPm B g s i d (Pure.repeated ⟨ea,fa,la0⟩ sign ps) w (.returned (.agg #[.bool c,.slice af nf cf,.slice al nl cl])) (((w1.setCell ⟨w.heap.size+1,0,none⟩ (.bool c)).setCell ⟨w.heap.size+1,1,none⟩ (.slice af nf cf)).setCell ⟨w.heap.size+1,2,none⟩ (.slice al nl cl))):=fun c hc=>by
   have g5:=three_set w1 (w.heap.size+1) (.bool c) (.slice af nf cf) (.slice al nl cl);refine⟨part_load (three_blk XR.out _ _ _),_,vp1,qs1,rfl,⟨_,_,_,_,_,_,by rw [hc];rfl,nats_grown N1.out XR.out (by decide) g5,nats_grown N2.out XR.out (by decide) g5⟩,K1.out.fresh g5 (by omega) BL,?_⟩;have:=R1.out.far XR.out (by decide) (by decide) (by decide) g5;unfold Pure.repeated;simp only [h63,if_false];exact this
  have h2:sign=42∨sign=43:=by omega
  rcases h2 with rfl | rfl
  all_goals
   cases ea
   all_goals
    go_wp2;obtain⟨ld,rt⟩:=KF.out _ rfl;exact bodyPost_ret (by simp [results,Tryz.results162,asAddr];first | exact ld | (simp at ld;exact ld)) rfl rt
namespace Pure
theorem P.le {s:ByteArray} {t:Nt} {i j:Nat} {a:Re} {D:Bool} (h:P s t i j a D) (hi:i≤s.size) (w:Int) (hw:Nst s t i w):j≤s.size:=(h.goes w 0 0 (Int.le_refl _) hw).le.2 hi
theorem PF.le {s:ByteArray} {t:Nf} {i k:Nat} (h:PF s t i k) (hi:i≤s.size) (w:Int) (hw:Fst s t i w):k≤s.size:=by
 obtain⟨r,g,_⟩:=h.halts hi w 0 0 (Int.le_refl _) hw
 exact g.le.2 hi
end Pure
def RetP (B g:Nat) (s:ByteArray) (i:Nat) (nt:Pure.Nt) (nf:Pure.Nf) (d:Bool) (ps:List Pure.Pl) (w:World) (e:Ending) (w':World):Prop:=
 (∃j re D v vp qs,Pure.P s nt i j re D∧e=.returned (.tuple #[v,.bool true])∧Pm w' v (Pure.part re ps).1∧Rk B w w'∧Rd B g s j (Pure.part re ps).2 (d || D) vp qs w')∨
 (∃k a ps' d' v vp qs,Pure.PF s nf i k∧e=.returned (.tuple #[v,.bool false])∧Pm w' v a∧Pure.PtOK ps'.length a∧Pure.PlsOK ps'∧(ps.length≤ps'.length∧ps'.length≤k)∧Rk B w w'∧Rd B g s k ps' d' vp qs w')
theorem fin3 {B g j gR:Nat} {s:ByteArray} {ps:List Pure.Pl} {d:Bool} {vp:Value} {qs:List (Pure.Pl × Value)} {w W:World} {x y z:Value} {v:Value} {a:Pure.Pt} (rk:Rk B w W) (rd:Rd B g s j ps d vp qs W) (hb:Blk W gR 83 [x,y,z]) (hr:w.heap.size≤gR) (BL:B≤w.heap.size) (pm:Pm W v a) :
  ∃af nf cf al nl cl,v=.agg #[.bool a.empty,.slice af nf cf,.slice al nl cl]∧
   (loadVar 83 ⟨gR,0,none⟩).run Tryz.prog (((W.setCell ⟨gR,0,none⟩ (.bool a.empty)).setCell ⟨gR,1,none⟩ (.slice af nf cf)).setCell ⟨gR,2,none⟩ (.slice al nl cl))=.ok v (((W.setCell ⟨gR,0,none⟩ (.bool a.empty)).setCell ⟨gR,1,none⟩ (.slice af nf cf)).setCell ⟨gR,2,none⟩ (.slice al nl cl))∧
   Pm (((W.setCell ⟨gR,0,none⟩ (.bool a.empty)).setCell ⟨gR,1,none⟩ (.slice af nf cf)).setCell ⟨gR,2,none⟩ (.slice al nl cl)) v a∧
   Rk B w (((W.setCell ⟨gR,0,none⟩ (.bool a.empty)).setCell ⟨gR,1,none⟩ (.slice af nf cf)).setCell ⟨gR,2,none⟩ (.slice al nl cl))∧
   Rd B g s j ps d vp qs (((W.setCell ⟨gR,0,none⟩ (.bool a.empty)).setCell ⟨gR,1,none⟩ (.slice af nf cf)).setCell ⟨gR,2,none⟩ (.slice al nl cl)):=by
 obtain⟨af,nf,cf,al,nl,cl,rfl,h1,h2⟩:=pm
 have g5:=three_set W gR (.bool a.empty) (.slice af nf cf) (.slice al nl cl)
 exact⟨af,nf,cf,al,nl,cl,rfl,part_load (three_blk hb _ _ _),⟨_,_,_,_,_,_,rfl,nats_grown h1 hb (by decide) g5,nats_grown h2 hb (by decide) g5⟩,rk.fresh g5 hr BL,rd.far hb (by decide) (by decide) (by decide) g5⟩
def ptZ:Pure.Pt:=⟨false,[],[]⟩
theorem ptZ_ok (n:Nat):Pure.PtOK n ptZ:=⟨.nil _,.nil _⟩
theorem pm_zero (W:World):Pm W (.agg #[.bool false,.slice none 0 0,.slice none 0 0]) ptZ:=⟨_,_,_,_,_,_,rfl,Nats.nil _,Nats.nil _⟩
theorem escaped_any (B g i:Nat) (s:ByteArray) (ps:List Pure.Pl) (d:Bool) (vp:Value) (qs:List (Pure.Pl × Value)) (w:World) (h:Rd B g s i ps d vp qs w) (hok:Pure.PlsOK ps) (hl:ps.length≤i) (hi:i≤s.size) (hs:s.size≤400) (h92:Pure.pkb s i=92) :
  Calls Tryz.prog 166 #[.pointer (some ⟨g,0,none⟩)] w (RetP B g s i .atom .atom d ps w):=by
 have BL:=h.lt
 have XR:Hid (Blk (w.alloc (.cells #[.bool false,.slice none 0 0,.slice none 0 0] 83)) w.heap.size 83 [.bool false,.slice none 0 0,.slice none 0 0]):=heap_alloc_new _ _
 have H0:=hide (h.below ((Below.refl w.heap.size w).alloc lr_ (.cells #[.bool false,.slice none 0 0,.slice none 0 0] 83)))
 have K0:Hid (Rk B w (w.alloc (.cells #[.bool false,.slice none 0 0,.slice none 0 0] 83))):=.alloc BL _
 have OK:=hide hok
 clear h hok
 by_cases hk:Pure.EscOK (Pure.pkb s (i+1))
 ·obtain⟨v,hv⟩:=hk.esc
  have PP:Hid (Pure.P s .atom i (i+2) (.pl (Pure.onlyB v)) false):=.esc h92 hv;have ES:=hide (fun w1 (h1:Rb w1 g s i vp d)=>escape_ok g i s vp d v w1 h1 (by omega) h92 hv);clear hk hv h92;go_enter Tryz.func166,Tryz.ntmps166
  go_wp2_with fail
  generalize w.alloc (.cells #[.bool false,.slice none 0 0,.slice none 0 0] 83)=W0 at *;refine (ES.out W0 H0.out.rb).mono ?_
  clear ES;rintro e w1 ⟨rfl,hg1,hr1⟩;have R1:=hide (H0.out.moved hg1 hr1);have K1:=hide (K0.out.trans (H0.out.rk hg1));have X1:=hide ((H0.out.rk hg1).blk XR.out (by decide) (by decide));clear hg1 hr1 H0 K0 XR
  go_wp2_with fail
  refine (only_any v w1).mono ?_
  rintro e w2 ⟨rfl,hb2⟩;have R2:=hide (R1.out.below hb2);have K2:=hide (K1.out.trans (.below R1.out.lt hb2));have X2:=hide (blk_below X1.out hb2 (blk_lt X1.out));clear hb2 R1 K1 X1
  go_wp2_with fail
  refine (one_any B g (i+2) s ps d vp qs (Pure.onlyB v) w2 R2.out (by omega)).mono ?_
  intro e w3 hq;obtain⟨v3,vp3,qs3,rfl,pm3,k3,r3⟩:=hq.pm;have K3:=hide (K2.out.trans k3);have X3:=hide (k3.blk X2.out (by decide) (by decide));have z0:=bc_ 0 X3.out rfl;have z1:=bc_ 1 X3.out rfl;have z2:=bc_ 2 X3.out rfl;have f0:=blk_frozen X3.out 0;have f1:=blk_frozen X3.out 1;have f2:=blk_frozen X3.out 2;obtain⟨af,nf,cf,al,nl,cl,rfl,ld,pmF,rkF,rdF⟩:=fin3 K3.out r3 X3.out lr_ BL pm3;have PF1:=hide pmF;have RF:=hide rdF;have KF:=hide rkF;clear hq pm3 k3 r3 R2 K2 X2 pmF rkF rdF;go_wp2;refine bodyPost_ret (v:=.tuple #[.agg #[.bool (Pure.oneP (Pure.onlyB v) ps).1.empty,.slice af nf cf,.slice al nl cl],.bool true]) (by simp [results,Tryz.results166,asAddr,Result.andThen,ld]) rfl ?_
  exact .inl ⟨i+2,_,false,_,_,_,PP.out,rfl,PF1.out,KF.out,by rw [Bool.or_false];exact RF.out⟩
 ·have PP:Hid (Pure.PF s .atom i (i+1)):=.esc h92 hk
  have ES:=hide (fun w1 (h1:Rb w1 g s i vp d)=>escape_no g i s vp d w1 h1 (by omega) h92 hk);clear hk h92;go_enter Tryz.func166,Tryz.ntmps166
  go_wp2_with fail
  generalize w.alloc (.cells #[.bool false,.slice none 0 0,.slice none 0 0] 83)=W0 at *;refine (ES.out W0 H0.out.rb).mono ?_
  clear ES;rintro e w1 ⟨rfl,hg1,hr1⟩;have R1:=hide (H0.out.moved hg1 hr1);have K1:=hide (K0.out.trans (H0.out.rk hg1));have X1:=hide ((H0.out.rk hg1).blk XR.out (by decide) (by decide));clear hg1 hr1 H0 K0 XR;have z0:=bc_ 0 X1.out rfl;have z1:=bc_ 1 X1.out rfl;have z2:=bc_ 2 X1.out rfl;have f0:=blk_frozen X1.out 0;have f1:=blk_frozen X1.out 1;have f2:=blk_frozen X1.out 2;obtain⟨af,nf,cf,al,nl,cl,hv,ld,pmF,rkF,rdF⟩:=fin3 K1.out R1.out X1.out lr_ BL (pm_zero w1);cases hv;simp only [show ptZ.empty=false from rfl] at ld pmF rkF rdF;have PF1:=hide pmF;have RF:=hide rdF;have KF:=hide rkF;clear pmF rkF rdF;go_wp2;refine bodyPost_ret (v:=.tuple #[.agg #[.bool false,.slice none 0 0,.slice none 0 0],.bool false]) (by simp [results,Tryz.results166,asAddr,Result.andThen,ld]) rfl ?_
  exact .inr ⟨i+1,ptZ,ps,d,_,_,_,PP.out,rfl,PF1.out,ptZ_ok _,OK.out,⟨lr_,by omega⟩,KF.out,RF.out⟩
end Go.Proofs.YtmccnmgaoppogaaGreat
