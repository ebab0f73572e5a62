/-
 The walks: the first rule of a set. (kinds)
 The walks: do two sets lead alike? (kinds)
 The walks: the kind of a set. (kinds)
 The walks: the sets are sorted once more. (kinds)
 The walks: the sets are sorted once more: the walk. (kinds)
 The walks: the sets are sorted by kinds. (kinds)
-/
import Derived.Test.YtmccnmgaoppogaaGreatFC
import Derived.Deep.AppendLies
namespace Go.Proofs.YtmccnmgaoppogaaGreat
set_option maxRecDepth 100000
set_option maxHeartbeats 8000000
open Go.RowKit
theorem firstRule_any (B n:Nat) (v vt:Value) (ls:List Pure.Lp) (t:List Nat) (w:World) (h:Lm B w v ls) (ht:Nats w vt t) (hl:ls.length≤1000) (hn:n≤1000) (hok:∀x∈ls,Pure.PtOK n x.pt) (htl:t.length≤1000) :
  Calls Tryz.prog 55 #[v,vt] w (RetVal (.int .i64 (Pure.firstRule ls t)) w):=by
 obtain⟨av,cv,rfl,hv1,hv2⟩:=h.len
 have H0:=hide h
 have HT:=hide ht
 have OK:=hide hok
 clear h hok ht
 go_enter Tryz.func55,Tryz.ntmps55
 go_wp2_with fail
 go_loopg [5,6,9] ls.length (fun gk _ _ kv wx=>∃(k:Nat),k≤ls.length∧gk=ls.length-k∧kv=.int .i64 k∧Pure.firstRuleGo t (ls.drop k) k=Pure.firstRule ls t∧Below w.heap.size w wx)
 case atStart=>exact⟨0,Nat.zero_le _,rfl,rfl,rfl,Below.refl _ _⟩
 case round=>
  obtain⟨k,kl,rfl,rfl,hf,hb⟩:=hrel;have HF:=hide hf;have HB:=hide hb;clear hf hb;by_cases hlt:k<ls.length
  ·have d1:=dl_ (k:Int) (ls.length:Int) (by omega)
   obtain⟨x,hx⟩:=gx_ ls k hlt;have okx:=OK.out x (List.mem_of_getElem? hx)
   have DR:Hid ((if Pure.meet x.pt.last t=true then (k:Int) else Pure.firstRuleGo t (ls.drop (k+1)) (k+1))=Pure.firstRule ls t):=by
    have:=HF.out;rw [List.drop_eq_getElem?_toList_append,hx] at this;exact this
   clear HF;obtain⟨g,cap,af,mf,cf,al,nl,cl,ev,hr,n1,n2⟩:=(H0.out.below HB.out).get hx;cases ev;have wi:=wr_ (k:Int) (by omega) (by omega);have ik0:=nz_ k;have ik1:(k:Int)<(ls.length:Int):=by omega
   have hbb:=(Below.refl wr.heap.size wr).alloc lr_ (.cells (lnC1 (x,.slice af mf cf,.slice al nl cl)).toArray 85);have hb2:=hide (bel0 HB.out hbb);have BX:Hid (Blk (wr.alloc (.cells (lnC1 (x,.slice af mf cf,.slice al nl cl)).toArray 85)) wr.heap.size 85 (lnC1 (x,.slice af mf cf,.slice al nl cl))):=heap_alloc_new _ _;have N2:=hide (n2.below hbb);have NT:=hide ((HT.out.below HB.out).below hbb);have HR:=hide hr;have xl:=okx.2.len;clear hr hx n1 n2 hbb okx;obtain⟨mo,em,ac,md,⟨ep,fi,la⟩,dn⟩:=x;simp only [lnC1] at hb2 BX HR N2 NT;simp only at xl DR;go_upto_region 4 with (refine wpList_load_mid rfl 85 (.tmp 12) rfl g (k*8) rfl _ _ HR.out Tryz.underlying85 rfl line_size ?_);have x6:=bc_ 6 BX.out rfl;clear HR BX;generalize wr.alloc (.cells #[.int .i64 mo,.int .i64 em,.int .i64 ac,.int .i64 md,.bool ep,.slice af mf cf,.slice al nl cl,.bool dn] 85)=W2 at *
   go_wp2_with fail
   refine (meet_any _ _ la t W2 N2.out NT.out (by omega) (by omega)).mono ?_
   rintro e w3 ⟨rfl,hb3⟩;have B3:=hide (bel0 hb2.out hb3);clear hb3 hb2 N2 NT x6
   cases hm:Pure.meet la t with
   | true=>
    have DR2:Hid (Pure.firstRule ls t=(k:Int)):=by
     have:=DR.out;rw [if_pos hm] at this;exact this.symm
    clear DR hm;go_wp2;go_ret;exact⟨by rw [DR2.out];rfl,B3.out⟩
   | false=>
    have DR2:Hid (Pure.firstRuleGo t (ls.drop (k+1)) (k+1)=Pure.firstRule ls t):=by
     have:=DR.out;rw [if_neg (by rw [hm];simp)] at this;exact this
    clear DR hm;go_wp2;go_roundg (ls.length-(k+1))
    case measure=>omega
    case rel=>exact⟨k+1,by omega,rfl,by go_num,DR2.out,B3.out⟩
  ·have d1:=df_ (k:Int) (ls.length:Int) (by omega)
   have e:k=ls.length:=by omega
   have RES:Hid (Pure.firstRule ls t=-1):=by
    have:=HF.out;rw [e,List.drop_length] at this;exact this.symm
   clear HF e;go_wp2;go_ret;exact⟨by rw [RES.out];rfl,HB.out⟩
theorem Setm.get {B:Nat} {W:World} {v:Value} {ss:List Pure.St} (h:Setm B W v ss) {k:Nat} {x:Pure.St} (hk:ss[k]?=some x) :
  ∃gs cap a n c,v=.slice (some ⟨gs,0,none⟩) ss.length cap∧W.rangeAt gs (k*257) (stC1 (x,.slice a n c))∧Nats W (.slice a n c) x.places∧x.longer.length=256:=by
 obtain⟨ts,h1,h2,h3,h4⟩:=h
 have hl:ts.length=ss.length:=by rw [←h2,List.length_map]
 rw [←h2,List.getElem?_map] at hk
 cases hq:ts[k]? with
 | none=>rw [hq] at hk;cases hk
 | some q=>
  rw [hq] at hk;simp only [Option.map_some,Option.some.injEq] at hk;subst hk;have hm:=List.mem_of_getElem? hq;have n1:=h3 q hm;obtain⟨a,c,e1,_⟩:=n1.form;have kl:k<ts.length:=(List.getElem?_eq_some_iff.1 hq).1;obtain⟨gs,cap,ev,_,_⟩:=own_some h1 (by omega);subst ev;have eq:q=(q.1,.slice a q.1.places.length c):=by rw [←e1]
  refine⟨gs,cap,a,q.1.places.length,c,by rw [hl],?_,by rw [←e1];exact n1,h4 q hm⟩;intro j u hu;rw [←eq] at hu
  have hj:j<257:=by
   have:=(List.getElem?_eq_some_iff.1 hu).1;rwa [stC1_length (h4 q hm)] at this
  have hc:=stC_get h4 hq hj;rw [hu] at hc;exact own_cell h1 hc
theorem Setm.long {B:Nat} {W:World} {gs n cap:Nat} {ss:List Pure.St} (h:Setm B W (.slice (some ⟨gs,0,none⟩) n cap) ss) {k:Nat} {x:Pure.St} (hk:ss[k]?=some x):W.rangeAt gs (k*257+1) (natCells x.longer)∧x.longer.length=256∧n=ss.length:=by
 obtain⟨gs',cap',a,n',c,e,hr,_,hl⟩:=h.get hk
 cases e
 refine⟨fun j u hu=>?_,hl,rfl⟩
 have:=hr (1+j) u (by unfold stC1;rw [Nat.add_comm,List.getElem?_cons_succ];exact hu)
 rwa [←Nat.add_assoc] at this
def RetQ (v:Value) (w:World) (e:Ending) (w':World):Prop:=e=.returned v∧∃m,w'=w.drewN m
theorem quiet_below {w W:World} (h:∃m,W=w.drewN m):Below w.heap.size w W:=by
 obtain⟨m,rfl⟩:=h
 exact below_drewN (Below.refl _ _) m
theorem quiet_on {w W:World} (h:∃m,W=w.drewN m) (n:Nat):∃m,W.drewN n=w.drewN m:=by
 obtain⟨m,rfl⟩:=h
 exact⟨m+n,World.drewN_drewN ..⟩
theorem quiet_none (w:World):∃m,w=w.drewN m:=⟨0,rfl⟩
theorem run_index_arr (cs:Array Value) (i:Nat) (v:Value) (hi:i<256) (hv:cs[i]?=some v) (w:World):(Instr.index 140 (.agg cs) (.int .i64 (i:Int))).run Tryz.prog w=.ok v w:=by
 simp [Instr.index,run_underlying Tryz.underlying140,asIntOf,hi,hv,go_sem]
theorem leadAlike_any (B gm a b gs n cap:Nat) (vr vk:Value) (ss:List Pure.St) (kinds:List Nat) (x y:Pure.St) (w:World) (hm:Blk w gm 139 [.slice (some ⟨gs,0,none⟩) n cap,vr]) (hs:Setm B w (.slice (some ⟨gs,0,none⟩) n cap) ss) (hk:Nats w vk kinds) (hx:ss[a]?=some x) (hy:ss[b]?=some y) (hlt:∀z∈ss,∀n∈z.longer,n<kinds.length) (_hl:ss.length≤1000) (hkl:kinds.length≤1000) :
  Calls Tryz.prog 144 #[.pointer (some ⟨gm,0,none⟩),.int .i64 a,.int .i64 b,vk] w (RetQ (.bool (Pure.alikeTo ss kinds a b 256)) w):=by
 obtain⟨hr,xl,rfl⟩:=hs.long hx
 obtain⟨hry,yl,_⟩:=hs.long hy
 obtain⟨ak,ck,rfl,_,_,_⟩:=hk.form
 have al:=(List.getElem?_eq_some_iff.1 hx).1
 have bl:=(List.getElem?_eq_some_iff.1 hy).1
 have ia0:=nz_ a
 have ia1:(a:Int)<(ss.length:Int):=by omega
 have ib0:=nz_ b
 have ib1:(b:Int)<(ss.length:Int):=by omega
 have c0:=bc_ 0 hm rfl
 have HR:=hide hr
 go_enter Tryz.func144,Tryz.ntmps144
 go_upto_region 2 with (refine wpList_load_mid rfl 140 (.tmp 17) rfl gs (a*257+1) rfl _ _ HR.out Tryz.underlying140 rfl (by rw [natCells_length,xl];kernel_rfl) ?_)
 have HM:=hide hm
 have HS:=hide hs
 have HK:=hide hk
 have HLT:=hide hlt
 have HX:=hide hx
 have HY:=hide hy
 have HRY:=hide hry
 clear hm hs hk hlt hx hy hr hry HR c0
 go_loopg [9,10,19] 256 (fun gk _ _ cv wx=>∃(c:Nat),c≤256∧gk=256-c∧cv=.int .i64 c∧(∃m,wx=w.drewN m)∧∀i,i<c→kinds.getD (Pure.lgS ss a i) 0=kinds.getD (Pure.lgS ss b i) 0)
 case atStart=>exact⟨0,Nat.zero_le _,rfl,rfl,quiet_none _,fun i hi=>absurd hi (Nat.not_lt_zero _)⟩
 case round=>
  obtain⟨c,cl,rfl,rfl,hmq,he⟩:=hrel;have HB:=hide hmq;have hb:=quiet_below hmq;clear hmq;have HE:=hide he;by_cases hc:c<256
  ·have d1:decide ((c:Int)<256)=true:=decide_eq_true (by omega)
   have wi:=wr_ (c:Int) (by omega) (by omega);have ic0:=nz_ c;have ic1:(c:Int)<256:=by omega
   obtain⟨p,hp⟩:=gx_ x.longer c (by omega);obtain⟨q,hq⟩:=gx_ y.longer c (by omega);have pl:=HLT.out x (List.mem_of_getElem? HX.out) p (List.mem_of_getElem? hp);have ql:=HLT.out y (List.mem_of_getElem? HY.out) q (List.mem_of_getElem? hq);have ip0:=nz_ p;have ip1:(p:Int)<(kinds.length:Int):=by omega
   have iq0:=nz_ q;have iq1:(q:Int)<(kinds.length:Int):=by omega
   have c0:=bc_ 0 (blk_below HM.out hb (blk_lt HM.out)) rfl;obtain⟨gk,ek,_,kc⟩:=(HK.out.below hb).some (by omega);subst ek;obtain⟨kp,hkp⟩:∃z,kinds[p]?=some z:=⟨_,List.getElem?_eq_getElem pl⟩;obtain⟨kq,hkq⟩:∃z,kinds[q]?=some z:=⟨_,List.getElem?_eq_getElem ql⟩;have k1:=kc p kp hkp;have k2:=kc q kq hkq;have y1:wr.cell? ⟨gs,b*257+1+c,none⟩=some (.int .i64 (q:Int)):=((HS.out.below hb).long HY.out).1 c _ (natCells_get hq);have xc:(natCells x.longer).toArray[c]?=some (.int .i64 (p:Int)):=by rw [List.getElem?_toArray];exact natCells_get hp
   have hix:=run_index_arr _ c _ hc xc
   have LA:Hid (Pure.lgS ss a c=p):=by
    show _=_;unfold Pure.lgS;rw [HX.out];simp [List.getD_eq_getElem?_getD,hp]
   have LB:Hid (Pure.lgS ss b c=q):=by
    show _=_;unfold Pure.lgS;rw [HY.out];simp [List.getD_eq_getElem?_getD,hq]
   have GP:Hid (kinds.getD p 0=kp∧kinds.getD q 0=kq):=by
    refine⟨?_,?_⟩
    ·rw [List.getD_eq_getElem?_getD,hkp];rfl
    ·rw [List.getD_eq_getElem?_getD,hkq];rfl
   clear hb he hp hq hkp hkq kc xc pl ql;by_cases e:kp=kq
   ·have HE2:Hid (∀i,i<c+1→kinds.getD (Pure.lgS ss a i) 0=kinds.getD (Pure.lgS ss b i) 0):=fun i hi=>by
     by_cases ei:i=c
     ·subst ei
      rw [LA.out,LB.out,GP.out.1,GP.out.2];exact e
     ·exact HE.out i (by omega)
    subst e;have e3:((kp:Int) != (kp:Int))=false:=by simp
    clear HE
    go_wp2_with fail
    go_quiet (fail);have dn:=hide (quiet_on HB.out nq);go_wp2;go_roundg (256-(c+1))
    case measure=>omega
    case rel=>exact⟨c+1,by omega,rfl,by go_num,dn.out,HE2.out⟩
   ·have R:Hid (Pure.alikeTo ss kinds a b 256=false):=by
     show _=_;unfold Pure.alikeTo;rw [List.all_eq_false];exact⟨c,List.mem_range.2 hc,by rw [LA.out,LB.out,GP.out.1,GP.out.2];simpa using e⟩
    have e1:((kp:Int) != (kq:Int))=true:=by simp;omega
    have e2:((kp:Int) == (kq:Int))=false:=by simp;omega
    have e3:¬(kp:Int)=(kq:Int):=by omega
    have e4:decide ((kp:Int)=(kq:Int))=false:=decide_eq_false e3;clear HE
    go_wp2_with fail
    go_quiet (fail);have dn:=hide (quiet_on HB.out nq);go_wp2;go_ret;exact⟨by rw [R.out];rfl,dn.out⟩
  ·have d1:decide ((c:Int)<256)=false:=decide_eq_false (by omega)
   have e:c=256:=by omega
   have R:Hid (Pure.alikeTo ss kinds a b 256=true):=by
    show _=_;unfold Pure.alikeTo;rw [List.all_eq_true];intro i hi;rw [decide_eq_true_eq];exact he i (by rw [e];exact List.mem_range.1 hi)
   clear he hb;go_wp2;go_ret;exact⟨by rw [R.out];rfl,HB.out⟩
structure Md (B gm gs cap:Nat) (vr:Value) (ss:List Pure.St) (rs:List Int) (W:World):Prop where
 b:Blk W gm 139 [.slice (some ⟨gs,0,none⟩) ss.length cap,vr]
 s:Setm B W (.slice (some ⟨gs,0,none⟩) ss.length cap) ss
 r:W.ownsRow B 3 1 vr rs.length (intCells rs)
 n:rs.length=ss.length
theorem Md.below {B gm gs cap:Nat} {vr:Value} {ss:List Pure.St} {rs:List Int} {W W':World} (h:Md B gm gs cap vr ss rs W) (hb:Below W.heap.size W W'):Md B gm gs cap vr ss rs W':=
 ⟨blk_below h.b hb (blk_lt h.b),h.s.below hb,own_below h.r hb lr_,h.n⟩
namespace Pure
theorem kindGo_le (ss:List St) (rs:List Int) (kinds:List Nat) (set:Nat):∀l:List Nat,kindGo ss rs kinds set l≤l.length:=by
 intro l
 induction l with
 | nil=>exact lr_
 | cons o r ih=>
  unfold kindGo;split
  ·exact Nat.zero_le _
  ·simp;exact ih
end Pure
theorem kindOf_any (B gm gs cap set:Nat) (vr vf vk:Value) (ss:List Pure.St) (rs:List Int) (firsts kinds:List Nat) (w:World) (hm:Md B gm gs cap vr ss rs w) (hf:Nats w vf firsts) (hk:Nats w vk kinds) (hset:set<ss.length) (hfl:∀o∈firsts,o<ss.length) (hlt:∀z∈ss,∀n∈z.longer,n<kinds.length) (hl:ss.length≤1000) (hkl:kinds.length≤1000) (hfn:firsts.length≤1000) :
  Calls Tryz.prog 119 #[.pointer (some ⟨gm,0,none⟩),.int .i64 set,vf,vk] w (RetQ (.int .i64 (Pure.kindGo ss rs kinds set firsts:Nat)) w):=by
 obtain⟨af,cf,rfl,_,_,_⟩:=hf.form
 have HM:=hide hm
 have HF:=hide hf
 have HK:=hide hk
 have HFL:=hide hfl
 have HLT:=hide hlt
 obtain⟨gr,cr,evr,_,_⟩:=own_some hm.r (by rw [hm.n];omega)
 subst evr
 have RN:Hid (rs.length=ss.length):=hm.n
 clear hm hf hk hfl hlt
 go_enter Tryz.func119,Tryz.ntmps119
 go_wp2_with fail
 go_loopg [9,10,13] firsts.length (fun gk _ _ iv wx=>∃(i:Nat),i≤firsts.length∧gk=firsts.length-i∧iv=.int .i64 i∧(∃m,wx=w.drewN m)∧Pure.kindGo ss rs kinds set (firsts.drop i)+i=Pure.kindGo ss rs kinds set firsts)
 case atStart=>exact⟨0,Nat.zero_le _,rfl,rfl,quiet_none _,rfl⟩
 case round=>
  obtain⟨i,il,rfl,rfl,hq,hg⟩:=hrel;have HQ:=hide hq;have hb:=quiet_below hq;have HG:=hide hg;clear hq hg;by_cases hi:i<firsts.length
  ·have d1:=dl_ (i:Int) (firsts.length:Int) (by omega)
   have wi:=wr_ (i:Int) (by omega) (by omega);have ii0:=nz_ i;have ii1:(i:Int)<(firsts.length:Int):=by omega
   obtain⟨o,ho⟩:=gx_ firsts i hi;have ol:=HFL.out o (List.mem_of_getElem? ho);have M2:=HM.out.below hb;obtain⟨gf,ef,_,fc⟩:=(HF.out.below hb).some (by omega);subst ef;have f1:=fc i o ho;have c1:=bc_ 1 M2.b rfl;obtain⟨ra,hra⟩:∃z,rs[set]?=some z:=⟨_,List.getElem?_eq_getElem (by rw [RN.out];exact hset)⟩;obtain⟨rb,hrb⟩:∃z,rs[o]?=some z:=⟨_,List.getElem?_eq_getElem (by rw [RN.out];exact ol)⟩;have r1:=own_cell M2.r (show (intCells rs)[set]?=some (.int .i64 ra) by simp [intCells,hra]);have r2:=own_cell M2.r (show (intCells rs)[o]?=some (.int .i64 rb) by simp [intCells,hrb]);have is0:=nz_ set;have is1:(set:Int)<(rs.length:Int):=by have:=RN.out;omega
   have io0:=nz_ o;have io1:(o:Int)<(rs.length:Int):=by have:=RN.out;omega
   have STEP:Hid ((if ra=rb∧Pure.alikeTo ss kinds set o 256=true then 0 else Pure.kindGo ss rs kinds set (firsts.drop (i+1))+1)+i=Pure.kindGo ss rs kinds set firsts):=by
    have:=HG.out;rw [List.drop_eq_getElem?_toList_append,ho] at this;have e1:rs.getD set 0=ra:=by rw [List.getD_eq_getElem?_getD,hra];rfl
    have e2:rs.getD o 0=rb:=by rw [List.getD_eq_getElem?_getD,hrb];rfl
    rw [←e1,←e2];exact this
   obtain⟨x,hx⟩:=gx_ ss set hset;obtain⟨y,hy⟩:=gx_ ss o ol
   have CALL:Hid (∀n,Calls Tryz.prog 144 #[.pointer (some ⟨gm,0,none⟩),.int .i64 set,.int .i64 o,vk] (wr.drewN n) (RetQ (.bool (Pure.alikeTo ss kinds set o 256)) (wr.drewN n))):=fun n=>by
    have hb2:Below wr.heap.size wr (wr.drewN n):=below_drewN (Below.refl _ _) n;have M3:=M2.below hb2;exact leadAlike_any B gm set o gs ss.length cap _ vk ss kinds x y _ M3.b M3.s ((HK.out.below hb).below hb2) hx hy HLT.out hl hkl
   clear fc hra hrb ho hx hy M2 hb HG ol;by_cases e:ra=rb
   ·have e1:(ra == rb)=true:=by simp [e]
    have e2:decide (ra=rb)=true:=decide_eq_true e
    cases ha:Pure.alikeTo ss kinds set o 256 with
    | true=>
     have R:Hid (Pure.kindGo ss rs kinds set firsts=i):=by
      have:=STEP.out;rw [if_pos ⟨e,ha⟩] at this;show _=_;omega
     rw [ha] at CALL;clear STEP ha;subst e
     go_wp2_with fail
     go_quiet ((go_at_call 144;exact Calls.quiet_of (CALL.out _)));have dn:=hide (quiet_on HQ.out nq);go_wp2;go_ret;exact⟨by rw [R.out];rfl,dn.out⟩
    | false=>
     have R:Hid (Pure.kindGo ss rs kinds set (firsts.drop (i+1))+(i+1)=Pure.kindGo ss rs kinds set firsts):=by
      have:=STEP.out;rw [if_neg (by rw [ha];simp)] at this;show _=_;omega
     rw [ha] at CALL;clear STEP ha;subst e
     go_wp2_with fail
     go_quiet ((go_at_call 144;exact Calls.quiet_of (CALL.out _)));have dn:=hide (quiet_on HQ.out nq);go_wp2;go_roundg (firsts.length-(i+1))
     case measure=>omega
     case rel=>exact⟨i+1,by omega,rfl,by go_num,dn.out,R.out⟩
   ·have e1:(ra == rb)=false:=by simp [e]
    have e2:decide (ra=rb)=false:=decide_eq_false e
    have R:Hid (Pure.kindGo ss rs kinds set (firsts.drop (i+1))+(i+1)=Pure.kindGo ss rs kinds set firsts):=by
     have:=STEP.out;rw [if_neg (fun h=>e h.1)] at this;show _=_;omega
    clear STEP CALL
    go_wp2_with fail
    go_quiet (fail);have dn:=hide (quiet_on HQ.out nq);go_wp2;go_roundg (firsts.length-(i+1))
    case measure=>omega
    case rel=>exact⟨i+1,by omega,rfl,by go_num,dn.out,R.out⟩
  ·have d1:=df_ (i:Int) (firsts.length:Int) (by omega)
   have e:i=firsts.length:=by omega
   have R:Hid (Pure.kindGo ss rs kinds set firsts=firsts.length):=by
    have:=HG.out;rw [e,List.drop_length] at this;have e0:Pure.kindGo ss rs kinds set []=0:=rfl;show _=_;omega
   clear HG hb;go_wp2;go_ret;exact⟨by rw [R.out];rfl,HQ.out⟩
theorem int_info4:(Tryz.prog.info? 3).map (fun i=>(i.zero,i.size,i.bytes))=some (some (.int .i64 0),1,8):=by kernel_rfl
theorem wpList_append_nat1 {w:World} {ops:Array Oper} {rest:List Oper} {o:Oper} {a:Act} {Q:Exit→Act→World→Prop} (hgd:o.guard=none) (s x:Operand)
  (ho:o.op=.call { callee:=.builtin .append,args:=#[s,x],argTypes:=#[31,31] }) (base:Nat) (v:Value) (u:List Nat) (q gx:Nat) (hs:a.eval s=v) (hown:w.ownsRow base 3 1 v u.length (natCells u))
  (hx:a.eval x=.slice (some ⟨gx,0,none⟩) 1 1) (hb:Blk w gx 3 [.int .i64 (q:Int)]) (hlen:u.length≤1000000) (hbase:base≤w.heap.size)
  (h:∀g cap w',w'.ownsRow base 3 1 (.slice (some ⟨g,0,none⟩) (u.length+1) cap) (u++[q]).length (natCells (u++[q]))→w.grownBy w' v.ownBlock→(v.ownBlock=some g∨g=w.heap.size)→wpList Tryz.prog ops Q rest (a.put o.dst (.slice (some ⟨g,0,none⟩) (u.length+1) cap)) w'):wpList Tryz.prog ops Q (o::rest) a w:=by
 obtain⟨il,hil,hl0,hl1,hl2⟩:=info_parts int_info4
 refine wpList_append_lies _ hgd s x 31 ho base 3 il _ 1 8 Tryz.underlying31 hil hl0 hl1 hl2 rfl (by decide) v u.length (natCells u) hs hown ⟨gx,0,none⟩ 1 1 [.int .i64 (q:Int)] hx rfl ?_ (fun z hz=>by simp at hz;rw [hz];rfl) (by decide) (by unfold maxLen;omega) (by omega) hbase _ rfl ?_
 ·intro j y hy
  have:=blk_cell hb hy;simpa [add_eq] using this
 ·intro g cap w' h1 h2 h3 _
  refine h g cap w' ?_ h2 h3;rw [List.length_append,natCells_append];exact h1
theorem own_offK {w w':World} {base e size n:Nat} {v:Value} {xs:List Value} {row:Option Nat} (h:w.ownsRow base e size v n xs) (hne:∀k,v.ownBlock=some k→some k≠row) (hg:w.grownBy w' row):w'.ownsRow base e size v n xs:=by
 refine⟨h.1,?_⟩
 rcases h.2 with h0 | ⟨g',cap,cur,h1,h2,h3,h4⟩
 ·exact .inl h0
 ·refine .inr ⟨g',cap,cur,h1,h2,?_,h4⟩
  rw [hg.block g' (Array.getElem?_eq_some_iff.1 h3).1 (hne g' (by rw [h1];rfl))];exact h3
structure Sq (B gq:Nat) (vk vf:Value) (q:Pure.Sorting) (W:World):Prop where
 b:Blk W gq 145 [vk,vf]
 k:W.ownsRow B 3 1 vk q.kinds.length (natCells q.kinds)
 f:W.ownsRow B 3 1 vf q.firsts.length (natCells q.firsts)
 ne:∀b,vk.ownBlock=some b→vf.ownBlock=some b→False
 lo:B≤gq
section
variable {B gq:Nat} {vk vf v2:Value} {q:Pure.Sorting} {W W' w2:World}
theorem Sq.below (h:Sq B gq vk vf q W) (hb:Below W.heap.size W W'):Sq B gq vk vf q W':=
 ⟨blk_below h.b hb (blk_lt h.b),own_below h.k hb lr_,own_below h.f hb lr_,h.ne,h.lo⟩
theorem Sq.addF (h:Sq B gq vk vf q W) {x g cap:Nat} (ho:w2.ownsRow B 3 1 (.slice (some ⟨g,0,none⟩) (q.firsts.length+1) cap) (q.firsts++[x]).length (natCells (q.firsts++[x]))) (hg:W.grownBy w2 vf.ownBlock) (hat:vf.ownBlock=some g∨g=W.heap.size) :
  Sq B gq vk (.slice (some ⟨g,0,none⟩) (q.firsts.length+1) cap) ⟨q.kinds,q.firsts++[x]⟩ (w2.setCell ⟨gq,1,none⟩ (.slice (some ⟨g,0,none⟩) (q.firsts.length+1) cap)):=by
 have b2:=row_far h.f h.b (by decide) hg
 have g2:=Lib.grownBy_setCell w2 gq 1 (.slice (some ⟨g,0,none⟩) (q.firsts.length+1) cap)
 have k2:w2.ownsRow B 3 1 vk q.kinds.length (natCells q.kinds):=own_offK h.k (fun b e e'=>h.ne b e e'.symm) hg
 refine⟨blk_set b2 1 _,row_apart k2 b2 (by decide) g2,row_apart ho b2 (by decide) g2,fun b e e'=>?_,h.lo⟩
 have eb:g=b:=Option.some.inj e'
 subst eb
 rcases hat with hat | hat
 ·exact h.ne g e hat
 ·have:=(World.ownsRow.lt h.k g e).2
  omega
theorem Sq.addK (h:Sq B gq vk vf q W) {x g cap:Nat} (ho:w2.ownsRow B 3 1 (.slice (some ⟨g,0,none⟩) (q.kinds.length+1) cap) (q.kinds++[x]).length (natCells (q.kinds++[x]))) (hg:W.grownBy w2 vk.ownBlock) (hat:vk.ownBlock=some g∨g=W.heap.size) :
  Sq B gq (.slice (some ⟨g,0,none⟩) (q.kinds.length+1) cap) vf ⟨q.kinds++[x],q.firsts⟩ (w2.setCell ⟨gq,0,none⟩ (.slice (some ⟨g,0,none⟩) (q.kinds.length+1) cap)):=by
 have b2:=row_far h.k h.b (by decide) hg
 have g2:=Lib.grownBy_setCell w2 gq 0 (.slice (some ⟨g,0,none⟩) (q.kinds.length+1) cap)
 have k2:w2.ownsRow B 3 1 vf q.firsts.length (natCells q.firsts):=own_offK h.f (fun b e e'=>h.ne b e'.symm e) hg
 refine⟨blk_set b2 0 _,row_apart ho b2 (by decide) g2,row_apart k2 b2 (by decide) g2,fun b e e'=>?_,h.lo⟩
 have eb:g=b:=Option.some.inj e
 subst eb
 rcases hat with hat | hat
 ·exact h.ne g hat e'
 ·have:=(World.ownsRow.lt h.f g e').2
  omega
end
def RetSq (q:Pure.Sorting) (w:World) (e:Ending) (w':World):Prop:=
 ∃v1 v2,e=.returned (.agg #[v1,v2])∧Below w.heap.size w w'∧w'.ownsRow w.heap.size 3 1 v1 q.kinds.length (natCells q.kinds)∧w'.ownsRow w.heap.size 3 1 v2 q.firsts.length (natCells q.firsts)∧∀b,v1.ownBlock=some b→v2.ownBlock=some b→False
abbrev set2 (W:World) (g:Nat) (a b:Value):World:=(W.setCell ⟨g,0,none⟩ a).setCell ⟨g,1,none⟩ b
theorem sort_load {W:World} {g:Nat} {a b:Value} (h:Blk W g 145 [a,b]):(loadVar 145 ⟨g,0,none⟩).run Tryz.prog W=.ok (.agg #[a,b]) W:=
 run_loadVar_mid W g 0 145 [a,b] _ (blk_range h) Tryz.underlying145 rfl (by kernel_rfl)
theorem two_set (W:World) (g:Nat) (a b:Value):W.grownBy (set2 W g a b) (some g):=(Lib.grownBy_setCell W g 0 a).trans (Lib.grownBy_setCell _ g 1 b)
theorem sort_fin {w W:World} {gq r:Nat} {vk vf:Value} {q:Pure.Sorting} {x y:Value} (hb:Below w.heap.size w W) (h:Sq w.heap.size gq vk vf q W) (hr:Blk W r 145 [x,y]) (lr:w.heap.size≤r) :
  (loadVar 145 ⟨r,0,none⟩).run Tryz.prog (set2 W r vk vf)=.ok (.agg #[vk,vf]) (set2 W r vk vf)∧RetSq q w (.returned (.agg #[vk,vf])) (set2 W r vk vf):=by
 have g2:=two_set W r vk vf
 exact⟨sort_load (blk_set (blk_set hr 0 vk) 1 vf),vk,vf,rfl,hb.grown g2 hb.size (fun k e=>by cases e;exact lr),row_apart h.k hr (by decide) g2,row_apart h.f hr (by decide) g2,h.ne⟩
namespace Pure
theorem finer_succ (ss:List St) (rs:List Int) (kinds:List Nat) (n:Nat):finer ss rs kinds (n+1)=finer1 ss rs kinds (finer ss rs kinds n) n:=by
 unfold finer
 rw [List.range_succ,List.foldl_append]
 rfl
theorem finer_ok (ss:List St) (rs:List Int) (kinds:List Nat):∀n,(finer ss rs kinds n).kinds.length=n∧(finer ss rs kinds n).firsts.length≤n∧∀o∈(finer ss rs kinds n).firsts,o<n:=by
 intro n
 induction n with
 | zero=>exact⟨rfl,lr_,fun o ho=>by simp [finer] at ho⟩
 | succ n ih=>
  obtain⟨h1,h2,h3⟩:=ih;rw [finer_succ];unfold finer1;refine⟨by simp [h1],?_,fun o ho=>?_⟩
  ·show (if _ then _ else _:List Nat).length≤_
   split
   ·simp;exact h2
   ·omega
  ·have ho':o∈(if kindGo ss rs kinds n (finer ss rs kinds n).firsts=(finer ss rs kinds n).firsts.length then (finer ss rs kinds n).firsts++[n] else (finer ss rs kinds n).firsts):=ho
   split at ho'
   ·rcases List.mem_append.1 ho' with k | k
    ·have:=h3 o k;omega
    ·simp at k;omega
   ·have:=h3 o ho';omega
end Pure
theorem finer_any (B gm gs cap:Nat) (vr vk:Value) (ss:List Pure.St) (rs:List Int) (kinds:List Nat) (w:World) (hm:Md B gm gs cap vr ss rs w) (hk:Nats w vk kinds) (hlt:∀z∈ss,∀n∈z.longer,n<kinds.length) (hl:ss.length≤1000) (hkl:kinds.length≤1000) :
  Calls Tryz.prog 88 #[.pointer (some ⟨gm,0,none⟩),vk] w (RetSq (Pure.finer ss rs kinds ss.length) w):=by
 have hb0:Below w.heap.size w ((w.alloc (.cells #[.slice none 0 0,.slice none 0 0] 145)).alloc (.cells #[.slice none 0 0,.slice none 0 0] 145)):=(bn_ _).alloc (by simp) _
 have HM:=hide hm
 have HK:=hide hk
 have HLT:=hide hlt
 have c0:=bc_ 0 (hm.below hb0).b rfl
 have R0:Hid (Blk ((w.alloc (.cells #[.slice none 0 0,.slice none 0 0] 145)).alloc (.cells #[.slice none 0 0,.slice none 0 0] 145)) w.heap.size 145 [.slice none 0 0,.slice none 0 0]):=blk_alloc (heap_alloc_new _ _) _
 have Q0:Hid (Sq w.heap.size (w.heap.size+1) (.slice none 0 0) (.slice none 0 0) ⟨[],[]⟩ ((w.alloc (.cells #[.slice none 0 0,.slice none 0 0] 145)).alloc (.cells #[.slice none 0 0,.slice none 0 0] 145))):=by
  have h2:=heap_alloc_new (w.alloc (.cells #[.slice none 0 0,.slice none 0 0] 145)) (.cells #[.slice none 0 0,.slice none 0 0] 145);rw [World.size_alloc] at h2;exact⟨h2,own_nil _ _ _ _,own_nil _ _ _ _,fun b e=>(by cases e),by omega⟩
 have B0:=hide hb0
 clear hm hk hlt hb0
 go_enter Tryz.func88,Tryz.ntmps88
 go_wp2_with fail
 clear c0
 go_loopg [6,7,14] ss.length (fun gk _ _ iv wx=>∃(k:Nat) (v1 v2:Value),k≤ss.length∧gk=ss.length-k∧iv=.int .i64 k∧Below w.heap.size w wx∧Blk wx w.heap.size 145 [.slice none 0 0,.slice none 0 0]∧Sq w.heap.size (w.heap.size+1) v1 v2 (Pure.finer ss rs kinds k) wx)
 case atStart=>exact⟨0,_,_,Nat.zero_le _,rfl,rfl,B0.out,R0.out,Q0.out⟩
 case round=>
  clear B0 R0 Q0;obtain⟨k,v1,v2,kl,rfl,rfl,hb,hr,hq⟩:=hrel;have OKF:=hide (Pure.finer_ok ss rs kinds k);generalize hF:Pure.finer ss rs kinds k=F at *;have HF:=hide hF;clear hF;obtain⟨a1,c1,rfl,_,_⟩:=own_fm hq.k;obtain⟨a2,c2,rfl,_,_⟩:=own_fm hq.f;by_cases hlt:k<ss.length
  ·have d1:=dl_ (k:Int) (ss.length:Int) (by omega)
   have wi:=wr_ (k:Int) (by omega) (by omega);have f1:=bc_ 1 hq.b rfl;have CALL:=hide (kindOf_any B gm gs cap k vr _ vk ss rs F.firsts kinds wr (HM.out.below hb) (own_mono hq.f (Nat.zero_le _)) (HK.out.below hb) hlt (fun o ho=>by have:=OKF.out.2.2 o ho;omega) HLT.out hl hkl (by have:=OKF.out.2.1;omega));have HB:=hide hb;have HR:=hide hr;have HQ:=hide hq;clear hb hr hq
   go_wp2_with fail
   refine CALL.out.mono ?_
   clear CALL f1;rintro e w3 ⟨rfl,hq3⟩;have hb3:Below wr.heap.size wr w3:=quiet_below hq3;have B3:=hide (HB.out.trans (hb3.mono HB.out.size));have R3:=hide (blk_below HR.out hb3 (blk_lt HR.out));have Q3:=hide (HQ.out.below hb3);clear hq3 hb3 HB HR HQ
   have NX:Hid (Pure.finer ss rs kinds (k+1)=⟨F.kinds++[Pure.kindGo ss rs kinds k F.firsts],if Pure.kindGo ss rs kinds k F.firsts=F.firsts.length then F.firsts++[k] else F.firsts⟩):=by
    show _=_;rw [Pure.finer_succ,HF.out];rfl
   have KL:=Pure.kindGo_le ss rs kinds k F.firsts;generalize Pure.kindGo ss rs kinds k F.firsts=kd at *;by_cases ek:kd=F.firsts.length
   ·rw [if_pos ek] at NX
    have g1:=bc_ 1 Q3.out.b rfl;subst ek;have hbA1:Below w3.heap.size w3 (w3.alloc (.cells #[.int .i64 (k:Int)] 3)):=bn_ _;have QA1:=hide (Q3.out.below hbA1);have RA1:=hide (blk_below R3.out hbA1 (blk_lt R3.out));have BA1:=hide (B3.out.trans (hbA1.mono B3.out.size));have f0:=bc_ 0 Q3.out.b rfl;have f1:=bc_ 1 Q3.out.b rfl;have f0a:=bc_ 0 QA1.out.b rfl;have f1a:=bc_ 1 QA1.out.b rfl;have LN1:F.firsts.length≤1000000:=by have:=OKF.out.1;have:=OKF.out.2.1;omega
    have SZ1:Hid (w.heap.size≤(w3.alloc (.cells #[.int .i64 (k:Int)] 3)).heap.size):=BA1.out.size;clear Q3 R3 B3 hbA1;go_upto_region 8 with (at_builtin;go_must (refine wpList_append_nat1 rfl (.tmp 29) (.tmp 31) rfl w.heap.size _ F.firsts k w3.heap.size rfl QA1.out.f rfl (heap_alloc_new _ _) LN1 SZ1.out ?_);intro g8 c8 w8 hown8 hgrow8 hat8;have mb8:=row_far QA1.out.f QA1.out.b (by decide) hgrow8;have k8:=blk_cell (j:=1) mb8 rfl;have z8:=blk_frozen mb8 1);have Q8:=hide (Sq.addF QA1.out hown8 hgrow8 hat8);have gs8:=Lib.grownBy_setCell w8 (w.heap.size+1) 1 (.slice (some ⟨g8,0,none⟩) (F.firsts.length+1) c8);have rr8:=row_far QA1.out.f RA1.out (by decide) hgrow8;have R8:=hide (blk_grown rr8 gs8 (fun e=>by have:=Option.some.inj e;omega));have b8:Below w.heap.size w w8:=BA1.out.grown hgrow8 BA1.out.size (fun k' e=>(World.ownsRow.lt QA1.out.f k' e).1);have B8:=hide (b8.grown gs8 b8.size (fun k' e=>by cases e;omega));clear mb8 k8 z8 hown8 hgrow8 hat8 gs8 rr8 b8 QA1 RA1 BA1 SZ1 f0 f1 f0a f1a;generalize w8.setCell ⟨w.heap.size+1,1,none⟩ (.slice (some ⟨g8,0,none⟩) (F.firsts.length+1) c8)=w9 at *;have B3:=hide B8.out;have R3:=hide R8.out;have Q3:=hide Q8.out;clear B8 R8 Q8 g1;generalize w9=w3 at *;generalize g8=g7 at *;generalize c8=c7 at *;have hbA2:Below w3.heap.size w3 (w3.alloc (.cells #[.int .i64 (F.firsts.length:Int)] 3)):=bn_ _;have QA2:=hide (Q3.out.below hbA2);have RA2:=hide (blk_below R3.out hbA2 (blk_lt R3.out));have BA2:=hide (B3.out.trans (hbA2.mono B3.out.size));have f0:=bc_ 0 Q3.out.b rfl;have f1:=bc_ 1 Q3.out.b rfl;have f0a:=bc_ 0 QA2.out.b rfl;have f1a:=bc_ 1 QA2.out.b rfl;have LN2:F.kinds.length≤1000000:=by have:=OKF.out.1;have:=OKF.out.2.1;omega
    have SZ2:Hid (w.heap.size≤(w3.alloc (.cells #[.int .i64 (F.firsts.length:Int)] 3)).heap.size):=BA2.out.size;clear Q3 R3 B3 hbA2;go_upto_region 9 with (at_builtin;go_must (refine wpList_append_nat1 rfl (.tmp 35) (.tmp 37) rfl w.heap.size _ F.kinds F.firsts.length w3.heap.size rfl QA2.out.k rfl (heap_alloc_new _ _) LN2 SZ2.out ?_);intro g8 c8 w8 hown8 hgrow8 hat8;have mb8:=row_far QA2.out.k QA2.out.b (by decide) hgrow8;have k8:=blk_cell (j:=0) mb8 rfl;have z8:=blk_frozen mb8 0);have Q8:=hide (Sq.addK QA2.out hown8 hgrow8 hat8);have gs8:=Lib.grownBy_setCell w8 (w.heap.size+1) 0 (.slice (some ⟨g8,0,none⟩) (F.kinds.length+1) c8);have rr8:=row_far QA2.out.k RA2.out (by decide) hgrow8;have R8:=hide (blk_grown rr8 gs8 (fun e=>by have:=Option.some.inj e;omega));have b8:Below w.heap.size w w8:=BA2.out.grown hgrow8 BA2.out.size (fun k' e=>(World.ownsRow.lt QA2.out.k k' e).1);have B8:=hide (b8.grown gs8 b8.size (fun k' e=>by cases e;omega));clear mb8 k8 z8 hown8 hgrow8 hat8 gs8 rr8 b8 QA2 RA2 BA2 SZ2 f0 f1 f0a f1a;generalize w8.setCell ⟨w.heap.size+1,0,none⟩ (.slice (some ⟨g8,0,none⟩) (F.kinds.length+1) c8)=w9 at *;go_wp2;go_roundg (ss.length-(k+1))
    case measure=>omega
    case rel=>exact⟨k+1,_,_,by omega,rfl,by go_num,B8.out,R8.out,by rw [NX.out];exact Q8.out⟩
   ·rw [if_neg ek] at NX
    have g1:=bc_ 1 Q3.out.b rfl;have e1:((kd:Int) == (F.firsts.length:Int))=false:=by simp;omega
    have e2:¬(kd:Int)=(F.firsts.length:Int):=by omega
    have e3:decide ((kd:Int)=(F.firsts.length:Int))=false:=decide_eq_false e2;have hbA3:Below w3.heap.size w3 (w3.alloc (.cells #[.int .i64 (kd:Int)] 3)):=bn_ _;have QA3:=hide (Q3.out.below hbA3);have RA3:=hide (blk_below R3.out hbA3 (blk_lt R3.out));have BA3:=hide (B3.out.trans (hbA3.mono B3.out.size));have f0:=bc_ 0 Q3.out.b rfl;have f1:=bc_ 1 Q3.out.b rfl;have f0a:=bc_ 0 QA3.out.b rfl;have f1a:=bc_ 1 QA3.out.b rfl;have LN3:F.kinds.length≤1000000:=by have:=OKF.out.1;have:=OKF.out.2.1;omega
    have SZ3:Hid (w.heap.size≤(w3.alloc (.cells #[.int .i64 (kd:Int)] 3)).heap.size):=BA3.out.size;clear Q3 R3 B3 hbA3;go_upto_region 9 with (at_builtin;go_must (refine wpList_append_nat1 rfl (.tmp 35) (.tmp 37) rfl w.heap.size _ F.kinds kd w3.heap.size rfl QA3.out.k rfl (heap_alloc_new _ _) LN3 SZ3.out ?_);intro g8 c8 w8 hown8 hgrow8 hat8;have mb8:=row_far QA3.out.k QA3.out.b (by decide) hgrow8;have k8:=blk_cell (j:=0) mb8 rfl;have z8:=blk_frozen mb8 0);have Q8:=hide (Sq.addK QA3.out hown8 hgrow8 hat8);have gs8:=Lib.grownBy_setCell w8 (w.heap.size+1) 0 (.slice (some ⟨g8,0,none⟩) (F.kinds.length+1) c8);have rr8:=row_far QA3.out.k RA3.out (by decide) hgrow8;have R8:=hide (blk_grown rr8 gs8 (fun e=>by have:=Option.some.inj e;omega));have b8:Below w.heap.size w w8:=BA3.out.grown hgrow8 BA3.out.size (fun k' e=>(World.ownsRow.lt QA3.out.k k' e).1);have B8:=hide (b8.grown gs8 b8.size (fun k' e=>by cases e;omega));clear mb8 k8 z8 hown8 hgrow8 hat8 gs8 rr8 b8 QA3 RA3 BA3 SZ3 f0 f1 f0a f1a;generalize w8.setCell ⟨w.heap.size+1,0,none⟩ (.slice (some ⟨g8,0,none⟩) (F.kinds.length+1) c8)=w9 at *;go_wp2;go_roundg (ss.length-(k+1))
    case measure=>omega
    case rel=>exact⟨k+1,_,_,by omega,rfl,by go_num,B8.out,R8.out,by rw [NX.out];exact Q8.out⟩
  ·have d1:=df_ (k:Int) (ss.length:Int) (by omega)
   have e:k=ss.length:=by omega
   have FIN:=hide (sort_fin hb hq hr lr_);have RES:Hid (Pure.finer ss rs kinds ss.length=F):=by rw [←e];exact HF.out
   have FIN2:Hid (RetSq (Pure.finer ss rs kinds ss.length) w (.returned (.agg #[.slice a1 F.kinds.length c1,.slice a2 F.firsts.length c2])) (set2 wr w.heap.size (.slice a1 F.kinds.length c1) (.slice a2 F.firsts.length c2))):=by rw [RES.out];exact FIN.out.2
   have f0:=bc_ 0 hq.b rfl;have f1:=bc_ 1 hq.b rfl;have z0:=bc_ 0 hr rfl;have z1:=bc_ 1 hr rfl;have y0:=blk_frozen hr 0;have y1:=blk_frozen hr 1;clear hb hq hr e;go_wp2;exact bodyPost_ret (by simp [results,Tryz.results88,asAddr,FIN.out.1]) rfl FIN2.out
theorem made_int (n:Nat):madeCells (Value.int .i64 0).cells (n*1)=(List.replicate n (.int .i64 0)).toArray:=by
 unfold madeCells
 refine Array.ext (by simp) (fun i h1 h2=>?_)
 simp [Value.cells,Nat.mod_one]
theorem make_int (n:Nat) (hn:n≤100000) (w:World):(Instr.makeSlice 31 (.int .i64 (n:Int)) (.int .i64 (n:Int))).run Tryz.prog w=.ok (.slice (some ⟨w.heap.size,0,none⟩) n n) (w.alloc (.cells (Array.replicate n (.int .i64 0)) 3)):=by
 obtain⟨i,h1,h2,h3,h4⟩:=info_parts int_info4
 have:=run_make (P:=Tryz.prog) w 31 3 i (.int .i64 0) Tryz.underlying31 h1 h2 .i64 .i64 (n:Int) (n:Int) (by omega) (Int.le_refl _) (by rw [h4];omega) (by omega)
 rw [this,h3,Int.toNat_natCast,made_int]
 rfl
theorem nats_zeros (W:World) (n:Nat) (hn:n≤100000):Nats (W.alloc (.cells (Array.replicate n (.int .i64 0)) 3)) (.slice (some ⟨W.heap.size,0,none⟩) n n) (List.replicate n 0):=by
 unfold Nats
 rw [List.length_replicate]
 refine⟨by simp [natCells],.inr ⟨W.heap.size,n,Array.replicate n (.int .i64 0),rfl,Nat.zero_le _,heap_alloc_new W _,lr_,by unfold maxLen;omega,by simp,?_⟩⟩
 simp [natCells]
structure Sr (w:World) (r gq:Nat) (q:Pure.Sorting) (vk vf:Value) (W:World):Prop where
 be:Below w.heap.size w W
 r0:Blk W r 145 [.slice none 0 0,.slice none 0 0]
 b:Blk W gq 145 [vk,vf]
 k:Nats W vk q.kinds
 f:∃a c,vf=.slice a q.firsts.length c
 lo:w.heap.size≤gq
theorem Sr.below {w:World} {r gq:Nat} {q:Pure.Sorting} {vk vf:Value} {W W':World} (h:Sr w r gq q vk vf W) (hb:Below W.heap.size W W'):Sr w r gq q vk vf W':=
 ⟨h.be.trans (hb.mono h.be.size),blk_below h.r0 hb (blk_lt h.r0),blk_below h.b hb (blk_lt h.b),h.k.below hb,h.f,h.lo⟩
theorem sort_any (B gm gs cap:Nat) (vr:Value) (ss:List Pure.St) (rs:List Int) (w:World) (hm:Md B gm gs cap vr ss rs w) (hlt:∀z∈ss,∀n∈z.longer,n<ss.length) (hl:ss.length≤1000) :
  Calls Tryz.prog 56 #[.pointer (some ⟨gm,0,none⟩)] w (RetSq (Pure.sortS ss rs) w):=by
 have hmk:=make_int ss.length (by omega)
 have b1:Below w.heap.size w (w.alloc (.cells #[.slice none 0 0,.slice none 0 0] 145)):=bn_ _
 have HM:=hide hm
 have HLT:=hide hlt
 have c0:=bc_ 0 (hm.below b1).b rfl
 have S0:Hid (Sr w w.heap.size (w.heap.size+1+1) ⟨List.replicate ss.length 0,[]⟩ (.slice (some ⟨w.heap.size+1,0,none⟩) ss.length ss.length) (.slice none 0 0) (((w.alloc (.cells #[.slice none 0 0,.slice none 0 0] 145)).alloc (.cells (Array.replicate ss.length (.int .i64 0)) 3)).alloc (.cells #[.slice (some ⟨w.heap.size+1,0,none⟩) ss.length ss.length,.slice none 0 0] 145))):=by
  have n1:=nats_zeros (w.alloc (.cells #[.slice none 0 0,.slice none 0 0] 145)) ss.length (by omega);rw [World.size_alloc] at n1;have h3:=heap_alloc_new ((w.alloc (.cells #[.slice none 0 0,.slice none 0 0] 145)).alloc (.cells (Array.replicate ss.length (.int .i64 0)) 3)) (.cells #[.slice (some ⟨w.heap.size+1,0,none⟩) ss.length ss.length,.slice none 0 0] 145);rw [World.size_alloc,World.size_alloc] at h3;refine⟨(b1.alloc (by simp) _).alloc (by simp;omega) _,blk_alloc (blk_alloc (heap_alloc_new _ _) _) _,h3,?_,⟨_,_,rfl⟩,by omega⟩;exact n1.below (bn_ _)
 clear hm hlt b1
 go_enter Tryz.func56,Tryz.ntmps56
 go_wp2_with fail
 clear c0 hmk
 go_loopg [4] (ss.length+1) (fun gk _ wx=>∃(q:Pure.Sorting) (vk vf:Value) (f:Nat),gk=ss.length+1-q.firsts.length∧q.firsts.length≤ss.length∧q.kinds.length=ss.length∧ss.length+1-q.firsts.length≤f∧Pure.sortGo ss rs f q=Pure.sortS ss rs∧Sr w w.heap.size (w.heap.size+1+1) q vk vf wx)
 case atStart=>exact⟨⟨List.replicate ss.length 0,[]⟩,_,_,ss.length+1,rfl,Nat.zero_le _,by simp,lr_,rfl,S0.out⟩
 case round=>
  clear S0;obtain⟨q,vk,vf,f,rfl,ql,qk,fl,hg,hS⟩:=hrel;obtain⟨aq,cq,rfl⟩:=hS.f;obtain⟨f',rfl⟩:∃f',f=f'+1:=⟨f-1,by omega⟩;have f0:=bc_ 0 hS.b rfl;have CALL:=hide (finer_any B gm gs cap vr vk ss rs q.kinds wr (HM.out.below hS.be) hS.k (fun z hz n hn=>by rw [qk];exact HLT.out z hz n hn) hl (by omega));have HS:=hide hS;have HG:=hide hg;have QK:=hide qk;have QL:=hide ql;have FL:=hide fl;obtain⟨ak,ck,rfl,_,_,_⟩:=hS.k.form;clear hS hg qk ql fl
  go_wp2_with fail
  refine CALL.out.mono ?_
  clear CALL f0;rintro e w3 ⟨v1,v2,rfl,hb3,o1,o2,ne⟩;have OKF:=hide (Pure.finer_ok ss rs q.kinds ss.length);have STEP:Hid ((if (Pure.finer ss rs q.kinds ss.length).firsts.length≤q.firsts.length then Pure.finer ss rs q.kinds ss.length else Pure.sortGo ss rs f' (Pure.finer ss rs q.kinds ss.length))=Pure.sortS ss rs):=HG.out;clear HG;generalize Pure.finer ss rs q.kinds ss.length=F at *;obtain⟨a1,c1,rfl,_,_⟩:=own_fm o1;obtain⟨a2,c2,rfl,_,_⟩:=own_fm o2;have hbA:Below w3.heap.size w3 (w3.alloc (.cells #[.slice a1 F.kinds.length c1,.slice a2 F.firsts.length c2] 145)):=bn_ _;have B4:Hid (Blk (w3.alloc (.cells #[.slice a1 F.kinds.length c1,.slice a2 F.firsts.length c2] 145)) w3.heap.size 145 [.slice a1 F.kinds.length c1,.slice a2 F.firsts.length c2]):=heap_alloc_new _ _;have S4:=hide ((HS.out.below hb3).below hbA);have WL:w.heap.size≤wr.heap.size:=HS.out.be.size;have O1:=hide (own_mono (own_below o1 hbA lr_) WL);have O2:=hide (own_mono (own_below o2 hbA lr_) WL);have NE:=hide ne;have GL:Hid (w.heap.size≤w3.heap.size):=Nat.le_trans WL hb3.size
  have G3:Hid (w.heap.size+1+1≠w3.heap.size∧w.heap.size≠w3.heap.size):=by
   have h1:=blk_lt (HS.out.below hb3).b;exact⟨by omega,by omega⟩
  clear HS hb3 o1 o2 ne hbA;go_upto_region 3 with (fail);generalize w3.alloc (.cells #[.slice a1 F.kinds.length c1,.slice a2 F.firsts.length c2] 145)=W4 at *;generalize w3.heap.size=g4 at *;have x0:=bc_ 0 B4.out rfl;have x1:=bc_ 1 B4.out rfl;have y1:=bc_ 1 S4.out.b rfl;have y0:=bc_ 0 S4.out.b rfl;have z0:=bc_ 0 S4.out.r0 rfl;have z1:=bc_ 1 S4.out.r0 rfl;have u0:=blk_frozen S4.out.r0 0;have u1:=blk_frozen S4.out.r0 1;have t0:=blk_frozen S4.out.b 0;have t1:=blk_frozen S4.out.b 1;by_cases h:F.firsts.length≤q.firsts.length
  ·have d1:decide ((F.firsts.length:Int)≤(q.firsts.length:Int))=true:=decide_eq_true (by omega)
   have SQ:Sq w.heap.size g4 (.slice a1 F.kinds.length c1) (.slice a2 F.firsts.length c2) F W4:=⟨B4.out,O1.out,O2.out,NE.out,GL.out⟩;have FIN:=hide (sort_fin S4.out.be SQ S4.out.r0 lr_)
   have FIN2:Hid (RetSq (Pure.sortS ss rs) w (.returned (.agg #[.slice a1 F.kinds.length c1,.slice a2 F.firsts.length c2])) (set2 W4 w.heap.size (.slice a1 F.kinds.length c1) (.slice a2 F.firsts.length c2))):=by
    rw [←STEP.out,if_pos h];exact FIN.out.2
   clear SQ S4 B4 O1 O2 NE STEP;go_wp2;exact bodyPost_ret (by simp [results,Tryz.results56,asAddr,FIN.out.1]) rfl FIN2.out
  ·have d1:decide ((F.firsts.length:Int)≤(q.firsts.length:Int))=false:=decide_eq_false (by omega)
   have g2:=two_set W4 (w.heap.size+1+1) (.slice a1 F.kinds.length c1) (.slice a2 F.firsts.length c2)
   have S5:Hid (Sr w w.heap.size (w.heap.size+1+1) F (.slice a1 F.kinds.length c1) (.slice a2 F.firsts.length c2) (set2 W4 (w.heap.size+1+1) (.slice a1 F.kinds.length c1) (.slice a2 F.firsts.length c2))):=
    ⟨S4.out.be.grown g2 S4.out.be.size (fun k e=>by cases e;omega),blk_grown S4.out.r0 g2 (fun e=>by have:=Option.some.inj e;omega),blk_set (blk_set S4.out.b 0 _) 1 _,row_apart (own_mono O1.out (Nat.zero_le _)) S4.out.b (by decide) g2,⟨_,_,rfl⟩,by omega⟩
   have NX:Hid (Pure.sortGo ss rs f' F=Pure.sortS ss rs):=by
    have:=STEP.out;rw [if_neg h] at this;exact this
   clear S4 B4 O1 O2 NE STEP g2;go_wp2;go_roundg (ss.length+1-F.firsts.length)
   case measure=>(have:=QL.out;have:=OKF.out.2.1;omega)
   case rel=>exact⟨F,_,_,f',rfl,OKF.out.2.1,OKF.out.1,by have:=FL.out;have:=QL.out;omega,NX.out,S5.out⟩
end Go.Proofs.YtmccnmgaoppogaaGreat
