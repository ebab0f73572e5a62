/-
 The walks: to which sets a set leads. (sets)
 The walks: the sets of a mode. (sets)
 The walks: the sets of a mode. (sets)
-/
import Derived.Test.YtmccnmgaoppogaaGreatF4A
namespace Go.Proofs.YtmccnmgaoppogaaGreat
set_option maxRecDepth 100000
set_option maxHeartbeats 8000000
open Go.RowKit
theorem own_frz {w:World} {base e size n m g cap:Nat} {xs:List Value} (h:w.ownsRow base e size (.slice (some ⟨g,0,none⟩) n cap) m xs) (j:Nat):w.frozen? ⟨g,j,none⟩=false:=by
 rcases h.2 with ⟨e1,_⟩ | ⟨g',cap',cur,e1,_,e3,_⟩
 ·cases e1
 ·injection e1 with e2
  injection e2 with e4;injection e4 with e5;subst e5;exact blk_frozen (t:=e) (xs:=cur.toList) (by simpa [Blk] using e3) j
theorem natCells_set (l:List Nat) (b n:Nat):(natCells l).set b (.int .i64 (n:Int))=natCells (l.set b n):=by
 unfold natCells
 rw [List.map_set]
theorem stC_set {ts:List (Pure.St × Value)} (h:∀t∈ts,t.1.longer.length=256) {p b n:Nat} {q:Pure.St × Value} (hp:ts[p]?=some q) (hb:b<256):(stC ts).set (p*257+1+b) (.int .i64 (n:Int))=stC (ts.set p ({ q.1 with longer:=q.1.longer.set b n },q.2)):=by
 rw [Nat.add_assoc]
 induction ts generalizing p with
 | nil=>simp at hp
 | cons z r ih=>
  have hz:=stC1_length (h z (List.mem_cons_self ..))
  cases p with
  | zero=>
   rw [List.getElem?_cons_zero] at hp;cases hp;rw [List.set_cons_zero,stC_cons,stC_cons,Nat.zero_mul,Nat.zero_add,List.set_append_left _ _ (by omega)];congr 1;unfold stC1;rw [show 1+b=b+1 by omega,List.set_cons_succ,natCells_set]
  | succ p=>
   rw [List.getElem?_cons_succ] at hp;rw [List.set_cons_succ,stC_cons,stC_cons,List.set_append_right _ _ (by omega),hz,show (p+1)*257+(1+b)-257=p*257+(1+b) by omega,ih (fun t ht=>h t (List.mem_cons_of_mem _ ht)) hp]
theorem Fd.setLong {B g:Nat} {ps:List Pure.Pl} {ss:List Pure.St} {vp:Value} {gs n cap:Nat} {ts:List (Pure.St × Value)} {W:World} (h:Fd B g ps ss vp (.slice (some ⟨gs,0,none⟩) n cap) ts W) {fr b m:Nat} {x:Pure.St} (hk:ss[fr]?=some x) (hb:b<256) :
  (∃ts',Fd B g ps (Pure.setLong ss fr b m) vp (.slice (some ⟨gs,0,none⟩) n cap) ts' (W.setCell ⟨gs,fr*257+1+b,none⟩ (.int .i64 (m:Int))))∧Sk B W (W.setCell ⟨gs,fr*257+1+b,none⟩ (.int .i64 (m:Int))):=by
 obtain⟨gs',cap',a,nn,c,ev,hq,_,_,_⟩:=h.get hk
 cases ev
 have hn:ss.length=ts.length:=h.len.symm
 have hg:=Lib.grownBy_setCell W gs (fr*257+1+b) (.int .i64 (m:Int))
 have own:=h.own
 rw [hn] at own
 have K:Sk B W (W.setCell ⟨gs,fr*257+1+b,none⟩ (.int .i64 (m:Int))):=Sk.row own (by have:=h.up;have:=blk_lt h.fb;omega) hg
 have hl:fr<ts.length:=(List.getElem?_eq_some_iff.1 hq).1
 have mem:∀t∈ts.set fr ({ x with longer:=x.longer.set b m },.slice a nn c),(t∈ts∨t=({ x with longer:=x.longer.set b m },.slice a nn c)):=fun t ht=>List.mem_or_eq_of_mem_set ht
 refine⟨⟨ts.set fr ({ x with longer:=x.longer.set b m },.slice a nn c),?_⟩,K⟩
 refine⟨?_,h.up,K.plm h.pl,?_,?_,fun t ht=>?_,fun t ht=>?_⟩
 ·refine blk_other h.fb (fun e=>?_) _ _
  rcases own.2 with ⟨e1,_⟩ | ⟨g',cap'',cur,e1,_,e3,_⟩
  ·cases e1
  ·cases e1
   have fb:=h.fb;unfold Blk at fb;rw [e] at fb;rw [fb] at e3;cases e3
 ·rw [hn,List.length_set]
  have:=own_set (j:=fr*257+1+b) (u:=.int .i64 (m:Int)) own;rw [stC_set h.ln hq hb] at this;exact this
 ·unfold Pure.setLong
  rw [modify_set _ hk,←h.ss,List.map_set]
 ·rcases mem t ht with k | k
  ·exact K.nats (h.nx t k)
  ·subst k
   exact K.nats (h.nx (x,.slice a nn c) (List.mem_of_getElem? hq))
 ·rcases mem t ht with k | k
  ·exact h.ln t k
  ·subst k
   simp only [List.length_set];exact h.ln (x,.slice a nn c) (List.mem_of_getElem? hq)
namespace Pure
theorem numbSt_get {ss:List St} {t:List Nat} {k:Nat} {x:St} (h:ss[k]?=some x):(numbSt ss t)[k]?=some x:=by
 unfold numbSt
 split
 ·exact h
 ·rw [List.getElem?_append_left (List.getElem?_eq_some_iff.1 h).1]
  exact h
theorem numbSt_len (ss:List St) (t:List Nat):ss.length≤(numbSt ss t).length∧(numbSt ss t).length≤ss.length+1:=by
 unfold numbSt
 split
 ·omega
 ·simp
theorem setLong_len (ss:List St) (fr b n:Nat):(setLong ss fr b n).length=ss.length:=by simp [setLong]
theorem lead1S_len (ps:List Pl) (ready:List Nat) (fr:Nat) (ss:List St) (b:Nat):ss.length≤(lead1S ps ready fr ss b).length∧(lead1S ps ready fr ss b).length≤ss.length+1:=by
 unfold lead1S
 rw [setLong_len]
 exact numbSt_len _ _
theorem leadS_succ (ps:List Pl) (ready:List Nat) (fr:Nat) (ss:List St) (k:Nat):leadS ps ready fr ss (k+1)=lead1S ps ready fr (leadS ps ready fr ss k) k:=by
 unfold leadS
 rw [List.range_succ,List.foldl_append]
 rfl
theorem leadS_len (ps:List Pl) (ready:List Nat) (fr:Nat) (ss:List St):∀k,ss.length≤(leadS ps ready fr ss k).length∧(leadS ps ready fr ss k).length≤ss.length+k:=by
 intro k
 induction k with
 | zero=>exact⟨lr_,lr_⟩
 | succ k ih=>
  have:=lead1S_len ps ready fr (leadS ps ready fr ss k) k;rw [leadS_succ];omega
def StOK (n:Nat) (ss:List St):Prop:=∀x∈ss,Inl n x.places
theorem numbSt_ok {n:Nat} {ss:List St} {t:List Nat} (h:StOK n ss) (ht:Inl n t):StOK n (numbSt ss t):=by
 unfold numbSt
 split
 ·exact h
 ·intro x hx
  rcases List.mem_append.1 hx with k | k
  ·exact h x k
  ·simp at k
   subst k;exact ht
theorem setLong_ok {n:Nat} {ss:List St} (fr b m:Nat) (h:StOK n ss):StOK n (setLong ss fr b m):=by
 intro x hx
 obtain⟨i,hi⟩:=List.getElem?_of_mem hx
 unfold setLong at hi
 rw [List.getElem?_modify] at hi
 cases hs:ss[i]? with
 | none=>rw [hs] at hi;cases hi
 | some y=>
  rw [hs] at hi;have hk:=h y (List.mem_of_getElem? hs);split at hi
  ·cases hi
   exact hk
  ·cases hi
   exact hk
theorem lead1S_ok {n:Nat} {ps:List Pl} {ready:List Nat} {fr:Nat} {ss:List St} {b:Nat} (h:StOK n ss) (hr:Inl n ready):StOK n (lead1S ps ready fr ss b):=setLong_ok _ _ _ (numbSt_ok h (taking_inl ps b hr))
theorem leadS_ok {n:Nat} {ps:List Pl} {ready:List Nat} {fr:Nat} {ss:List St} (h:StOK n ss) (hr:Inl n ready):∀k,StOK n (leadS ps ready fr ss k):=by
 intro k
 induction k with
 | zero=>exact h
 | succ k ih=>rw [leadS_succ];exact lead1S_ok ih hr
end Pure
def RetFd (B g:Nat) (ps:List Pure.Pl) (ss':List Pure.St) (w:World) (e:Ending) (w':World):Prop:=
 e=.returned (.tuple #[])∧Sk B w w'∧∃vp vs ts,Fd B g ps ss' vp vs ts w'
theorem leadF_any (B g:Nat) (ps:List Pure.Pl) (ss:List Pure.St) (vp vs:Value) (ts:List (Pure.St × Value)) (vr:Value) (fr:Nat) (ready:List Nat) (w:World) (h:Fd B g ps ss vp vs ts w) (hl:ss.length≤100) (hpl:ps.length≤1000) (hf:fr<ss.length) (hr:Nats w vr ready) (hi:Pure.Inl ps.length ready) (hss:Pure.StOK ps.length ss) :
  Calls Tryz.prog 84 #[.pointer (some ⟨g,0,none⟩),.int .i64 fr,vr] w (RetFd B g ps (Pure.leadS ps ready fr ss 256) w):=by
 have F0:Hid (Sk B w w∧∃vp vs ts,Fd B g ps (Pure.leadS ps ready fr ss 0) vp vs ts w):=⟨Sk.refl _ _,vp,vs,ts,h⟩
 have BL:B≤w.heap.size:=by have:=h.up;have:=blk_lt h.fb;omega
 have HR:=hide hr
 have HI:=hide hi
 have HS:=hide hss
 clear h hr hi hss
 go_enter Tryz.func84,Tryz.ntmps84
 go_wp2_with fail
 go_loopg [6,7,8] 256 (fun gk bv _ _ wx=>∃b:Nat,b≤256∧gk=256-b∧bv=.int .i64 b∧Sk B w wx∧∃vp vs ts,Fd B g ps (Pure.leadS ps ready fr ss b) vp vs ts wx)
 case atStart=>exact⟨0,Nat.zero_le _,rfl,rfl,F0.out⟩
 case round=>
  clear F0;obtain⟨b,bl,rfl,rfl,hsk,vp1,vs1,ts1,hfd⟩:=hrel;have SK:=hide hsk;have FD:=hide hfd;clear hsk hfd;by_cases hlt:b<256
  ·have d1:decide ((b:Int)<256)=true:=decide_eq_true (by omega)
   have ln:=Pure.leadS_len ps ready fr ss b;have OKB:=hide (Pure.leadS_ok (fr:=fr) (ps:=ps) HS.out HI.out b);have wi:=wr_ (b:Int) (by omega) (by omega);have STEP:=hide (Pure.leadS_succ ps ready fr ss b);have BLr:B≤wr.heap.size:=Nat.le_trans BL SK.out.lo.size;have TI:=hide (Pure.taking_inl ps b HI.out);generalize hsb:Pure.leadS ps ready fr ss b=sb at *
   go_wp2_with fail
   refine (taking_any B g ps sb vp1 vs1 ts1 vr ready b wr FD.out hpl (SK.out.nats HR.out) HI.out hlt).mono ?_
   rintro e w1 ⟨t1,rfl,hb1,ho1⟩;have F1:=hide (FD.out.below hb1);have S1:=hide (SK.out.trans (.below BLr hb1));have N1:Hid (Nats w1 t1 (Pure.taking ps ready b)):=own_mono ho1 (Nat.zero_le _);clear hb1 ho1 FD SK;have tl:=TI.out.len
   go_wp2_with fail
   refine (number_any B g ps sb vp1 vs1 ts1 t1 (Pure.taking ps ready b) w1 F1.out (by omega) N1.out (by omega) (fun x hx=>by have:=(OKB.out x hx).len;omega)).mono ?_
   rintro e w2 ⟨rfl,hs2,vp2,vs2,ts2,hf2⟩;have S2:=hide (S1.out.trans hs2);have F2:=hide hf2;have nl:=Pure.numbSt_len sb (Pure.taking ps ready b);obtain⟨x,hx⟩:∃x,(Pure.numbSt sb (Pure.taking ps ready b))[fr]?=some x:=⟨_,List.getElem?_eq_getElem (by omega)⟩;obtain⟨gs,cap,ax,nx,cx,ev,_,hrg,_,hlg⟩:=hf2.get hx;subst ev;obtain⟨⟨ts3,hf3⟩,hk3⟩:=hf2.setLong (m:=Pure.idxSt (Pure.taking ps ready b) sb) hx hlt;have F3:=hide hf3;have S3:=hide (S2.out.trans hk3);have c1:=bc_ 1 hf2.fb rfl;have hlg':b<x.longer.length:=by omega
   have old:=hrg (1+b) (.int .i64 (x.longer[b]'hlg':Nat)) (by
    rw [show 1+b=b+1 by omega];show (natCells x.longer)[b]?=_
    exact natCells_get (List.getElem?_eq_getElem hlg'))
   rw [←Nat.add_assoc] at old;have frz:=own_frz hf2.own (fr*257+1+b);generalize hov:x.longer[b]'hlg'=ov at old;clear hov hs2 hf2 hrg hlg hlg' hx hf3 hk3 F1 S1 N1 F2 S2;have ST2:Hid (Pure.lead1S ps ready fr sb b=Pure.setLong (Pure.numbSt sb (Pure.taking ps ready b)) fr b (Pure.idxSt (Pure.taking ps ready b) sb)):=rfl;generalize Pure.idxSt (Pure.taking ps ready b) sb=num at *;have ib0:=nz_ b;have ib1:(b:Int)<256:=by omega
   have if0:=nz_ fr;have if1:(fr:Int)<((Pure.numbSt sb (Pure.taking ps ready b)).length:Int):=by omega
   go_wp2;go_roundg (256-(b+1))
   case measure=>omega
   case rel=>exact⟨b+1,by omega,rfl,by go_num,S3.out,_,_,ts3,by rw [STEP.out,ST2.out];exact F3.out⟩
  ·have d1:decide ((b:Int)<256)=false:=decide_eq_false (by omega)
   have e:b=256:=by omega
   subst e;go_wp2
   go_end0
   exact⟨rfl,SK.out,_,_,_,FD.out⟩
def Setm (B:Nat) (W:World) (v:Value) (ss:List Pure.St):Prop:=∃ts,W.ownsRow B 142 257 v ts.length (stC ts)∧ts.map (·.1)=ss∧(∀t∈ts,Nats W t.2 t.1.places)∧∀t∈ts,t.1.longer.length=256
theorem Fd.setm {B g:Nat} {ps:List Pure.Pl} {ss:List Pure.St} {vp vs:Value} {ts:List (Pure.St × Value)} {W:World} (h:Fd B g ps ss vp vs ts W):Setm B W vs ss:=⟨ts,h.own,h.ss,h.nx,h.ln⟩
theorem Setm.below {B:Nat} {W W':World} {v:Value} {ss:List Pure.St} (h:Setm B W v ss) (hb:Below W.heap.size W W'):Setm B W' v ss:=by
 obtain⟨ts,h1,h2,h3,h4⟩:=h
 exact⟨ts,own_below h1 hb lr_,h2,fun t ht=>(h3 t ht).below hb,h4⟩
theorem step_make_full {P:Program} (w:World) {ops:Array Oper} {o:Oper} {a:Act} {K:Act→World→Prop} {Q:Exit→Act→World→Prop} {E:Prop}
  (hg:o.guard=none) (l c:Operand) (t:TypeId) (hop:o.op=Op.makeSlice t l c)
  (base:Nat) (e:TypeId) (i:TypeInfo) (z:Value) (size:Nat) (h1:P.underlying t=some (.slice e)) (h2:P.info? e=some i) (h3:i.zero=some z) (h4:i.size=size)
  (kl kc:IntKind) (L C:Int) (n:Nat) (hl:a.eval l=.int kl L) (hc:a.eval c=.int kc C) (hL:L=(n:Int)) (hC:C=(n:Int)) (b2:i.bytes*n≤281474976710656) (b3:n≤maxLen) (b4:base≤w.heap.size)
  (hK:∀w',w'.ownsRow base e size (.slice (some ⟨w.heap.size,0,none⟩) n n) n (madeCells z.cells (n*size)).toList→w.grownBy w' none→K (a.put o.dst (.slice (some ⟨w.heap.size,0,none⟩) n n)) w') :
  if Region.wanted o (yielded ops a.tmps)=true then Oper.wp P o a w K Q else E:=by
 have hw:Region.wanted o (yielded ops a.tmps)=true:=by simp [Region.wanted,hg]
 rw [if_pos hw]
 obtain⟨w',hrun,r1,r2⟩:=run_make_full (P:=P) w base t e i z size h1 h2 h3 h4 kl kc n b2 b3 b4
 subst hL
 subst hC
 unfold Oper.wp
 simp [execOp,hop,hl,hc,hrun,Result.andThen]
 exact hK w' r1 r2
def ts0:List (Pure.St × Value):=[(⟨[],Pure.z256⟩,.slice none 0 0),(⟨[],Pure.z256⟩,.slice none 0 0)]
theorem made2:(madeCells (Value.agg setZ.toArray).cells (2*257)).toList=stC ts0:=by kernel_rfl
def RetFind (ss:List Pure.St) (w:World) (e:Ending) (w':World):Prop:=
 Below w.heap.size w w'∧((ss.length≤42∧∃vs,e=.returned (.tuple #[vs,.bool true])∧Setm w.heap.size w' vs ss)∨(42<ss.length∧e=.returned (.tuple #[.slice none 0 0,.bool false])))
theorem grown_none {w w':World} (h:w.grownBy w' none):Below w.heap.size w w':=(Below.refl _ _).grown h lr_ (fun k e=>by cases e)
namespace Pure
theorem findGo_len (ps:List Pl):∀(f k:Nat) (ss:List St),ss.length≤42+256→(findGo ps f k ss).length≤42+256:=by
 intro f
 induction f with
 | zero=>intro k ss h;exact h
 | succ f ih=>
  intro k ss h;unfold findGo;split
  ·rename_i hc
   refine ih _ _ ?_
   have:=leadS_len ps (behindR ps (plS ss k)) k ss 256;omega
  ·exact h
end Pure
theorem plm_zero {B:Nat} {W:World} {v:Value} {ps:List Pure.Pl} (h:Plm B W v ps):Plm 0 W v ps:=by
 obtain⟨qs,h1,h2,h3⟩:=h
 exact⟨qs,own_mono h1 (Nat.zero_le _),h2,h3⟩
theorem ts0_nats (W:World):∀t∈ts0,Nats W t.2 t.1.places:=by
 intro t ht
 simp [ts0] at ht
 subst ht
 exact Nats.nil _
theorem z256_len:Pure.z256.length=256:=by unfold Pure.z256;rw [List.length_replicate]
theorem ts0_len:∀t∈ts0,t.1.longer.length=256:=by
 intro t ht
 simp [ts0] at ht
 subst ht
 exact z256_len
theorem find_any (B:Nat) (md mode:Int) (al ap:Option Addr) (nl cl np cp:Nat) (ls:List Pure.Lp) (ps:List Pure.Pl) (w:World) (hL:Lm B w (.slice al nl cl) ls) (hP:Plm B w (.slice ap np cp) ps) (hok:Pure.PlsOK ps) (hl:ps.length≤1000) (hll:ls.length≤1000) (hlo:∀x∈ls,Pure.PtOK ps.length x.pt) :
  Calls Tryz.prog 54 #[.agg #[.int .i64 md,.slice al nl cl,.slice ap np cp],.int .i64 mode] w (RetFind (Pure.findS ls ps mode) w):=by
 obtain⟨is,his,hz0,hz1,hz2⟩:=info_parts set_info
 have hb0:=(Below.refl w.heap.size w).alloc lr_ (.cells #[.int .i64 md,.slice al nl cl,.slice ap np cp] 78)
 have HL:=hide (hL.below hb0)
 have HP:=hide (hP.below hb0)
 have B0:=hide hb0
 have TB:Hid (Blk (w.alloc (.cells #[.int .i64 md,.slice al nl cl,.slice ap np cp] 78)) w.heap.size 78 [.int .i64 md,.slice al nl cl,.slice ap np cp]):=heap_alloc_new _ _
 have OK:=hide hok
 have LO:=hide hlo
 clear hL hP hok hlo hb0
 go_enter Tryz.func54,Tryz.ntmps54
 go_upto_region 1 with (fail)
 generalize w.alloc (.cells #[.int .i64 md,.slice al nl cl,.slice ap np cp] 78)=W0 at *
 generalize hgT:w.heap.size=gT at *
 go_cut [6] (fun v wx=>∃g vs ts,v=.pointer (some ⟨g,0,none⟩)∧Below W0.heap.size W0 wx∧Fd W0.heap.size g ps Pure.st0 (.slice ap np cp) vs ts wx)
 case first=>
  have t2:W0.drew.cell? ⟨gT,2,none⟩=some (.slice ap np cp):=blk_cell (j:=2) TB.out rfl;have gtl:=blk_lt TB.out;refine wp_region_held_drew (S:=fun w'=>w'.cell? ⟨gT,2,none⟩=some (.slice ap np cp)) (by kernel_rfl) t2 (fun hHeld=>?_);refine wpAnyH_take (i:=0) (v:=?v0) rfl (by kernel_rfl) (by kernel_rfl) (by kernel_rfl) (fun _ _ _ h=>h) (Or.inl ⟨by rfl,?hy0⟩) (by assumption) ?rest0
  case hy0=>(intro w hSw;(try dsimp only at hSw);go_simp;try (with_reducible rfl))
  simp only [List.getElem_toArray,List.getElem_cons_zero,Act.put,List.setIfInBounds_toArray,List.set_cons_zero,List.set_cons_succ];refine wpAnyH_take (i:=1) (v:=?v1) rfl (by kernel_rfl) (by kernel_rfl) (by kernel_rfl) (fun _ _ _ h=>h) (Or.inl ⟨by rfl,?hy1⟩) (by assumption) ?rest1
  case hy1=>(intro w hSw;(try dsimp only at hSw);go_simp;try (with_reducible rfl))
  simp only [tk_,Act.put];refine wpAnyH_ready (rs:=[2,4]) (by kernel_rfl) (by simp) ?_
  refine AllReadyH.cons rfl (fun K hK=>?_) (AllReadyH.cons rfl (fun K hK=>?_) AllReadyH.nil)
  ·refine step_make_full _ rfl _ _ 87 rfl W0.heap.size 142 is (.agg setZ.toArray) 257 Tryz.underlying87 his hz0 hz1 _ _ _ _ 2 rfl rfl rfl rfl (by omega) (by unfold maxLen;omega) lr_ ?_
   intro w1 hown1 hgrow1;have hb1:=grown_none hgrow1;have bA:Below W0.heap.size W0 w1:=bel0 (Below.refl W0.heap.size W0).drew hb1;have tA:=blk_below TB.out bA gtl;have t3:=bc_ 2 tA rfl;rw [made2] at hown1;have O1:=hide hown1;have BA:=hide bA;have TA:=hide tA;clear hown1 hgrow1 hb1 bA tA;refine hK.out _ _ t3 (fun hHeld2=>?_);clear hK K
   try simp only [tk_,Act.put]
   refine wpAnyH_take (i:=3) (v:=?va3) rfl (by kernel_rfl) (by kernel_rfl) (by kernel_rfl) (fun _ _ _ h=>h) (Or.inl ⟨by rfl,?hya3⟩) (by assumption) ?resta3
   case hya3=>(intro w hSw;(try dsimp only at hSw);go_simp;try (with_reducible rfl))
   simp only [tk_,Act.put];refine wpAnyH_ready (rs:=[4]) (by kernel_rfl) (by simp) ?_
   refine AllReadyH.cons rfl (fun K hK=>?_) AllReadyH.nil
   go_simp
   have tlt:=blk_lt TA.out;have t4:=bc_ 2 (blk_alloc TA.out (.cells #[.slice none 0 0,.slice none 0 0] 189)) rfl;refine hK.out _ _ t4 (fun hHeld3=>?_);clear hK K
   try simp only [tk_,Act.put]
   refine wpAnyH_ready (rs:=[5]) (by kernel_rfl) (by simp) ?_
   refine AllReadyH.cons rfl (fun K hK=>?_) AllReadyH.nil
   go_simp
   have t5:=bc_ 2 (blk_alloc TA.out (.cells #[.slice ap np cp,.slice (some ⟨W0.heap.size,0,none⟩) 2 2] 189)) rfl;refine hK.out _ _ t5 (fun hHeld4=>?_);clear hK K;refine wpAnyH_done (by kernel_rfl) ?_ _;have hb4:=(Below.refl w1.heap.size w1).alloc lr_ (.cells #[.slice ap np cp,.slice (some ⟨W0.heap.size,0,none⟩) 2 2] 189)
   have FD:Hid (Fd W0.heap.size w1.heap.size ps Pure.st0 (.slice ap np cp) (.slice (some ⟨W0.heap.size,0,none⟩) 2 2) ts0 (w1.alloc (.cells #[.slice ap np cp,.slice (some ⟨W0.heap.size,0,none⟩) 2 2] 189))):=
    ⟨heap_alloc_new _ _,BA.out.size,(plm_zero (HP.out.below BA.out)).below hb4,own_below O1.out hb4 lr_,rfl,ts0_nats _,ts0_len⟩
   have BE:=hide (bel0 BA.out hb4);clear hHeld hHeld2 hHeld3 hHeld4 t2 t3 t4 t5 hb4
   go_wp2_with fail
   go_meet
   case rel=>exact⟨_,_,_,rfl,BE.out,FD.out⟩
  ·go_simp
   have hb1:Below W0.heap.size W0 (W0.alloc (.cells #[.slice none 0 0,.slice none 0 0] 189)).drew:=((Below.refl W0.heap.size W0).alloc lr_ _).drew;have FB1:Hid (Blk (W0.alloc (.cells #[.slice none 0 0,.slice none 0 0] 189)).drew W0.heap.size 189 [.slice none 0 0,.slice none 0 0]):=heap_alloc_new W0 _;have TA:=hide (blk_below TB.out hb1 gtl);have t3:=bc_ 2 TA.out rfl;have B1:=hide hb1;clear hb1;refine hK.out _ _ t3 (fun hHeld2=>?_);clear hK K;generalize (W0.alloc (.cells #[.slice none 0 0,.slice none 0 0] 189)).drew=W1 at *
   try simp only [tk_,Act.put]
   refine wpAnyH_ready (rs:=[2]) (by kernel_rfl) (by simp) ?_
   refine AllReadyH.cons rfl (fun K hK=>?_) AllReadyH.nil;refine step_make_full _ rfl _ _ 87 rfl W0.heap.size 142 is (.agg setZ.toArray) 257 Tryz.underlying87 his hz0 hz1 _ _ _ _ 2 rfl rfl rfl rfl (by omega) (by unfold maxLen;omega) B1.out.size ?_
   intro w2 hown2 hgrow2;have hb2:=grown_none hgrow2;have tA2:=blk_below TA.out hb2 (blk_lt TA.out);have fb2:=blk_below FB1.out hb2 (blk_lt FB1.out);have t4:=bc_ 2 tA2 rfl;rw [made2] at hown2;have O2:=hide hown2;have B2:=hide (bel0 B1.out hb2);have T2:=hide tA2;have FB2:=hide fb2;clear hown2 hgrow2 hb2 tA2 fb2 B1 TA FB1;refine hK.out _ _ t4 (fun hHeld3=>?_);clear hK K
   try simp only [tk_,Act.put]
   refine wpAnyH_take (i:=3) (v:=?vb3) rfl (by kernel_rfl) (by kernel_rfl) (by kernel_rfl) (fun _ _ _ h=>h) (Or.inl ⟨by rfl,?hyb3⟩) (by assumption) ?restb3
   case hyb3=>(intro w hSw;(try dsimp only at hSw);go_simp;try (with_reducible rfl))
   simp only [tk_,Act.put];refine wpAnyH_ready (rs:=[5]) (by kernel_rfl) (by simp) ?_
   refine AllReadyH.cons rfl (fun K hK=>?_) AllReadyH.nil;have k0:=bc_ 0 FB2.out rfl;have k1:=bc_ 1 FB2.out rfl;have kf0:=blk_frozen FB2.out 0;have kf1:=blk_frozen FB2.out 1;have gne:gT≠W0.heap.size:=by omega
   go_simp
   have g5:w2.grownBy ((w2.setCell ⟨W0.heap.size,0,none⟩ (.slice ap np cp)).setCell ⟨W0.heap.size,1,none⟩ (.slice (some ⟨W1.heap.size,0,none⟩) 2 2)) (some W0.heap.size):=(Lib.grownBy_setCell w2 W0.heap.size 0 _).trans (Lib.grownBy_setCell _ W0.heap.size 1 _);have t5:=bc_ 2 (blk_grown T2.out g5 (fun e=>gne (Option.some.inj e))) rfl;refine hK.out _ _ t5 (fun hHeld4=>?_);clear hK K;refine wpAnyH_done (by kernel_rfl) ?_ _
   have FD:Hid (Fd W0.heap.size W0.heap.size ps Pure.st0 (.slice ap np cp) (.slice (some ⟨W1.heap.size,0,none⟩) 2 2) ts0 ((w2.setCell ⟨W0.heap.size,0,none⟩ (.slice ap np cp)).setCell ⟨W0.heap.size,1,none⟩ (.slice (some ⟨W1.heap.size,0,none⟩) 2 2))):=
    ⟨blk_set (blk_set FB2.out 0 _) 1 _,lr_,(plm_zero (HP.out.below B2.out)).grown FB2.out (by decide) (by decide) g5,row_apart O2.out FB2.out (by decide) g5,rfl,ts0_nats _,ts0_len⟩
   have BE:Hid (Below W0.heap.size W0 ((w2.setCell ⟨W0.heap.size,0,none⟩ (.slice ap np cp)).setCell ⟨W0.heap.size,1,none⟩ (.slice (some ⟨W1.heap.size,0,none⟩) 2 2))):=B2.out.grown g5 B2.out.size (fun k e=>by cases e;exact lr_);clear hHeld hHeld2 hHeld3 hHeld4 t2 t3 t4 t5 g5 k0 k1 kf0 kf1
   go_wp2_with fail
   go_meet
   case rel=>exact⟨_,_,_,rfl,BE.out,FD.out⟩
 case rest=>
  obtain⟨g,vs,ts,rfl,hbc,hfd⟩:=hcut;have WL:w.heap.size≤W0.heap.size:=by rw [hgT];have:=blk_lt TB.out;omega
  have TBc:=hide (blk_below TB.out hbc (blk_lt TB.out));have HLc:=hide (HL.out.below hbc)
  have BC:Hid (Below w.heap.size w wc):=by
   have:=B0.out;rw [←hgT] at this;exact this.trans (hbc.mono WL)
  have F0:=hide hfd;have szc:=hbc.size;clear hfd hbc HL HP TB B0;have c1:=bc_ 1 TBc.out rfl
  go_wp2_with fail
  refine (begin_any B ps.length _ ls mode wc HLc.out hll hl LO.out).mono ?_
  clear c1;rintro e w1 ⟨r1,rfl,hb1,ho1⟩;have F1:=hide (F0.out.below hb1);have S1:Hid (Sk W0.heap.size wc w1):=.below szc hb1;have N1:Hid (Nats w1 r1 (Pure.beginR ls mode)):=own_mono ho1 (Nat.zero_le _);have BI:=hide (Pure.begin_inl (n:=ps.length) mode LO.out)
  have OK0:Hid (Pure.StOK ps.length Pure.st0):=by
   intro x hx;simp [Pure.st0] at hx;subst hx;exact .nil _
  clear hb1 ho1 F0 HLc TBc
  go_wp2_with fail
  refine (leadF_any W0.heap.size g ps Pure.st0 _ vs ts r1 1 (Pure.beginR ls mode) w1 F1.out (by decide) hl (by decide) N1.out BI.out OK0.out).mono ?_
  rintro e w2 ⟨rfl,hs2,hf2⟩
  have I0:Hid (∃(k:Nat) (ss:List Pure.St),43=45-k∧2≤k∧k≤43∧Value.int .i64 2=.int .i64 k∧Pure.findGo ps (45-k) k ss=Pure.findS ls ps mode∧Sk W0.heap.size wc w2∧Pure.StOK ps.length ss∧ss.length≤298∧∃vp vs ts,Fd W0.heap.size g ps ss vp vs ts w2):=
   ⟨2,_,rfl,by omega,by omega,rfl,rfl,S1.out.trans hs2,Pure.leadS_ok OK0.out BI.out 256,by have:=(Pure.leadS_len ps (Pure.beginR ls mode) 1 Pure.st0 256).2;have e0:Pure.st0.length=2:=rfl;omega,hf2⟩
  clear hs2 hf2 F1 S1 N1 BI OK0
  go_wp2_with fail
  go_loopg [7,8] 43 (fun gk _ kv wx=>∃(k:Nat) (ss:List Pure.St),gk=45-k∧2≤k∧k≤43∧kv=.int .i64 k∧Pure.findGo ps (45-k) k ss=Pure.findS ls ps mode∧Sk W0.heap.size wc wx∧Pure.StOK ps.length ss∧ss.length≤298∧∃vp vs ts,Fd W0.heap.size g ps ss vp vs ts wx)
  case atStart=>exact I0.out
  case round=>
   clear I0;obtain⟨k,ss,rfl,k2,k43,rfl,hfg,hsk,hok,sl,vp1,vs1,ts1,hfd⟩:=hrel;have HG:=hide hfg;have SK:=hide hsk;have OKS:=hide hok;have FD:=hide hfd;have tl:=hfd.len;obtain⟨as1,cs1,rfl,_,_⟩:=own_fm hfd.own;have c1:=bc_ 1 hfd.fb rfl;rw [tl] at c1;have FW:=hide (few_any W0.heap.size g ps ss _ _ _ wr hfd)
   have GE:Hid (Pure.findGo ps (45-k) k ss=if k<ss.length∧ss.length≤42 then Pure.findGo ps (45-(k+1)) (k+1) (Pure.leadS ps (Pure.behindR ps (Pure.plS ss k)) k ss 256) else ss):=by
    show _=_;rw [show 45-k=(45-(k+1))+1 by omega];rfl
   have BLr:W0.heap.size≤wr.heap.size:=Nat.le_trans szc SK.out.lo.size;clear hfg hsk hok hfd;by_cases hlt:k<ss.length
   ·have d1:=dl_ (k:Int) (ss.length:Int) (by omega)
    go_wp2_with fail
    refine FW.out.mono ?_
    clear FW;rintro e w3 ⟨rfl,rfl⟩;by_cases hfew:ss.length≤42
    ·rw [decide_eq_true hfew]
     have NXT:Hid (Pure.findGo ps (45-(k+1)) (k+1) (Pure.leadS ps (Pure.behindR ps (Pure.plS ss k)) k ss 256)=Pure.findS ls ps mode):=by
      have:=GE.out;rw [if_pos ⟨hlt,hfew⟩] at this;show _=_;rw [←this];exact HG.out
     obtain⟨x,hx⟩:=gx_ ss k hlt;have epl:Pure.plS ss k=x.places:=by unfold Pure.plS;rw [hx]
     rw [epl] at NXT;obtain⟨gs,cap,ax,nx,cx,ev,_,hrg,hn,_⟩:=FD.out.get hx;rw [←tl] at ev;cases ev;have cell0:=hrg 0 (.slice ax nx cx) rfl;rw [Nat.add_zero] at cell0;have XN:=hide hn;have XI:=hide (OKS.out x (List.mem_of_getElem? hx));have ik0:=nz_ k;have ik1:(k:Int)<(ss.length:Int):=by omega
     have wi:=wr_ (k:Int) (by omega) (by omega);clear hrg hn hx epl GE HG
     go_wp2_with fail
     refine (behind_any W0.heap.size g ps ss _ _ ts1 _ x.places w3 FD.out OK.out hl XN.out XI.out).mono ?_
     rintro e w4 ⟨r4,rfl,hb4,ho4⟩;have F4:=hide (FD.out.below hb4);have S4:=hide (SK.out.trans (.below BLr hb4));have N4:Hid (Nats w4 r4 (Pure.behindR ps x.places)):=own_mono ho4 (Nat.zero_le _);have BI:=hide (Pure.behind_inl OK.out x.places);clear hb4 ho4 FD SK c1 cell0 XN
     go_wp2_with fail
     refine (leadF_any W0.heap.size g ps ss _ _ ts1 r4 k (Pure.behindR ps x.places) w4 F4.out (by omega) hl hlt N4.out BI.out OKS.out).mono ?_
     rintro e w5 ⟨rfl,hs5,hf5⟩;have S5:=hide (S4.out.trans hs5);have F5:=hide hf5;have O5:=hide (Pure.leadS_ok (fr:=k) (ps:=ps) OKS.out BI.out 256)
     have L5:Hid ((Pure.leadS ps (Pure.behindR ps x.places) k ss 256).length≤298):=by
      show _≤_;have:=(Pure.leadS_len ps (Pure.behindR ps x.places) k ss 256).2;omega
     clear hs5 hf5 F4 S4 N4 BI OKS;go_wp2;go_roundg (45-(k+1))
     case measure=>omega
     case rel=>exact⟨k+1,_,rfl,by omega,by omega,by go_num,NXT.out,S5.out,O5.out,L5.out,F5.out⟩
    ·rw [decide_eq_false hfew]
     have RES:Hid (Pure.findS ls ps mode=ss):=by
      have:=GE.out;rw [if_neg (fun h=>hfew h.2)] at this;show _=_;rw [←this];exact HG.out.symm
     have FW:=hide (few_any W0.heap.size g ps ss _ _ _ w3 FD.out);clear GE HG
     go_wp2_with fail
     refine FW.out.mono ?_
     clear FW;rintro e w4 ⟨rfl,rfl⟩;rw [decide_eq_false hfew];go_wp2
     go_ret2
     exact⟨BC.out.trans (SK.out.lo.mono WL),by rw [RES.out];exact .inr ⟨by omega,rfl⟩⟩
   ·have d1:=df_ (k:Int) (ss.length:Int) (by omega)
    have RES:Hid (Pure.findS ls ps mode=ss):=by
     have:=GE.out;rw [if_neg (fun h=>hlt h.1)] at this;show _=_;rw [←this];exact HG.out.symm
    clear GE HG
    go_wp2_with fail
    refine FW.out.mono ?_
    clear FW;rintro e w4 ⟨rfl,rfl⟩;by_cases hfew:ss.length≤42
    ·rw [decide_eq_true hfew]
     go_wp2
     go_ret2
     refine⟨BC.out.trans (SK.out.lo.mono WL),?_⟩;rw [RES.out];refine .inl ⟨hfew,_,rfl,?_⟩;have:=FD.out.setm;rw [tl] at this;obtain⟨ts',h1,h2⟩:=this;exact⟨ts',own_mono h1 WL,h2⟩
    ·rw [decide_eq_false hfew]
     go_wp2
     go_ret2
     exact⟨BC.out.trans (SK.out.lo.mono WL),by rw [RES.out];exact .inr ⟨by omega,rfl⟩⟩
end Go.Proofs.YtmccnmgaoppogaaGreat
