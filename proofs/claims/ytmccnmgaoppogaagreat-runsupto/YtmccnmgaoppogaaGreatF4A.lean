import Derived.Test.YtmccnmgaoppogaaGreatKan
namespace Go.Proofs.YtmccnmgaoppogaaGreat
open Pu
set_option linter.all false
set_option maxRecDepth 100000
set_option maxHeartbeats 8000000
open Go.RowKit
variable {v:V_} {ps:List Pu.aJ} {ops:Array Oper} {rest:List Oper}
def nS (t:aN × V_):List V_:=t.2::bV t.1.longer
def Od (ts:List (aN × V_)):List V_:=ts.flatMap nS
theorem QV (a b:List (aN × V_)):Od (a++b)=Od a++Od b:=by simp [Od]
theorem xC (q:aN × V_) (r:List (aN × V_)):Od (q::r)=nS q++Od r:=rfl
structure Fd (B g:Nat) (ps:List Pu.aJ) (ss:List aN) (vp vs:V_) (ts:List (aN × V_)) (W:W_):Prop where
 aQ:dh W g 189 [vp,vs]
 up:B<=g
 pl:Dm 0 W vp ps
 own:W.ownsRow B 142 257 vs ts.length (Od ts)
 ss:ts.map (·.1)=ss
 nx:∀t∈ts,ed W t.2 t.1.places
 ln:∀t∈ts,t.1.longer.length=256
section
variable {B g:Nat} {ps:List Pu.aJ} {ss:List aN} {vp vs:V_} {ts:List (aN × V_)} {W W':W_}
theorem Fd.below (h:Fd B g ps ss vp vs ts W) (hb:B_ W W'):Fd B g ps ss vp vs ts W':=
 ⟨bN h.aQ hb (bO h.aQ),h.up,h.pl.below hb,bU h.own hb di,h.ss,fun t ht=>(h.nx t ht).below hb,h.ln⟩
theorem Fd.len (h:Fd B g ps ss vp vs ts W):ts.length=ss.length:=by rw [<-h.ss,lm_]
end
theorem Dm.get {B:Nat} {W:W_} (h:Dm B W v ps) {p:Nat} {x:Pu.aJ} (hp:ps[p]?=some x) :
  ∃g cap an nn cn,v=s_ g ps.length cap/\W.cell? (a_ g (p*257+256))=some (.slice an nn cn)/\ed W (.slice an nn cn) x.next/\∀b,b<256->W.cell? (a_ g (p*257+b))=some (.bool (x.takes b)):=by
 obtain⟨qs,h1,h2,h3⟩:=h;have e:ps.length=qs.length:=by rw [<-h2,lm_]
 rw [<-h2,gm_] at hp
 cases hq:qs[p]? with
 | none=>rw [hq] at hp;cases hp
 | some q=>rw [hq] at hp;simp only [Option.map_some,Option.some.injEq] at hp;subst hp;have pl:p<qs.length:=(ge_.1 hq).1;obtain⟨g,cap,ev,_,_⟩:=dJ h1 (by omega);subst ev;have n1:=h3 q (mg_ hq);obtain⟨an,cn,e2,_⟩:=n1.form;refine⟨g,cap,an,_,cn,by rw [e],?_,by rw [<-e2];exact n1,fun b hb=>bT h1 (ZV hq hb)⟩;rw [<-e2];exact bT h1 (E5 hq)
def RO (l:List Nat) (w:W_) (e:Ending) (w':W_):Prop:=∃v,e=.returned v/\B_ w w'/\w'.ownsRow w.heap.size 3 1 v l.length (bV l)
def CQ (mode:Int) (acc:List Nat) (x:aD):List Nat:=if x.mode=mode then Pu.un acc x.pt.first else acc
theorem Ur (B n:Nat) (v:V_) (ls:List aD) (mode:Int) (w:W_) (h:Lm B w v ls) (_hl:ls.length<=1000) (hn:n<=1000) (hok:∀x∈ls,mI n x.pt) :
  C_ 83 #[v,I_ mode] w (RO (jG ls mode) w):=by
 obtain⟨av,cv,rfl,hv1,hv2⟩:=h.len;have H0:=bK h;have OK:=bK hok;have B0:Hid (B_ w (w.alloc (c_ #[] 3))):=mi _;clear h hok;go_enter Tryz.func83,Tryz.ntmps83
 go_wp2_with fail
 go_loopg [5,7,11] ls.length (fun gk rv _ kv wx=>∃(k:Nat) (acc:List Nat) (r:V_),k<=ls.length/\gk=ls.length-k/\rv=r/\kv=I_ k/\sJ n acc/\(ls.drop k).foldl (CQ mode) acc=jG ls mode/\B_ w wx/\wx.ownsRow w.heap.size 3 1 r acc.length (bV acc))
 case atStart=>exact⟨0,[],_,zl_ _,rfl,rfl,rfl,.nil _,rfl,B0.o,rV _ _ _⟩
 case round=>
  clear B0;obtain⟨k,acc,r,kl,rfl,rfl,rfl,hin,hf,hb,ho⟩:=hrel;have HF:=bK hf;have HB:=bK hb;have HO:=bK ho;have HI:=bK hin;have agj:=hin.len;obtain⟨ar,cr,rfl,_,_⟩:=dS ho;clear hf hb ho hin;by_cases hlt:k<ls.length
  .have d1:=nV k ls.length;obtain⟨x,hx⟩:=qG ls k hlt;have okx:=OK.o x (mg_ hx);have DR:Hid ((ls.drop (k+1)).foldl (CQ mode) (CQ mode acc x)=jG ls mode):=by have:=HF.o;rw [List.drop_eq_getElem?_toList_append,hx] at this;exact this
   clear HF;obtain⟨g,cap,af,mf,cf,al,nl,cl,ev,hr,n1,n2⟩:=(H0.o.below HB.o).get hx;cases ev;have wi:=kg k;have Mr:=jg k;have Ij:(k:Int)<ls.length:=by omega
   have hbb:=(Br_ wr.heap.size wr).alloc di (c_ (kC (x,.slice af mf cf,.slice al nl cl)).toArray 85);have hb2:=bK (iT HB.o hbb);have BX:Hid (dh (wr.alloc (c_ (kC (x,.slice af mf cf,.slice al nl cl)).toArray 85)) wr.heap.size 85 (kC (x,.slice af mf cf,.slice al nl cl))):=hn_ _ _;have Cf:=bK (bU HO.o hbb di);have N1:=bK (n1.below hbb);have HR:=bK hr;have OX:=bK okx.1;have xl:=okx.1.len;clear hr hx n1 n2 hbb HO okx;obtain⟨mo,em,ac,md,⟨ep,fi,la⟩,dn⟩:=x;simp only [kC] at hb2 BX HR Cf N1;simp only at OX xl;simp only [CQ] at DR;go_upto_region 5 with (refine wl_ rfl 85 (.tmp 13) rfl g (k*8) rfl _ _ HR.o Tryz.underlying85 rfl qZ ?_);have x0:=bP 0 BX.o rfl;have x5:=bP 5 BX.o rfl;clear HR BX;generalize wr.alloc (c_ #[I_ mo,I_ em,I_ ac,I_ md,.bool ep,.slice af mf cf,.slice al nl cl,.bool dn] 85)=W2 at *;by_cases hm:mo=mode
   .have e1:(mo == mode)=true:=by simpa using hm
    rw [if_pos hm] at DR
    go_wp2_with fail
    refine (pq _ _ acc fi W2 (dH Cf.o (zl_ _)) N1.o (by omega) (by omega)).mono ?_
    rintro e w3 ⟨u0,rfl,hb3,hu⟩;have B3:=bK (iT hb2.o hb3);have U3:Hid (w3.ownsRow w.heap.size 3 1 u0 (Pu.un acc fi).length (bV (Pu.un acc fi))):=dH hu hb2.o.size;have I3:=bK (HI.o.un OX.o);clear hb3 hu Cf N1 HI OX x0 x5;go_wp2;go_roundg (ls.length-(k+1))
    case measure=>omega
    case rel=>exact⟨k+1,_,_,by omega,rfl,rfl,by go_num,I3.o,DR.o,B3.o,U3.o⟩
   .have e1:(mo == mode)=false:=by simpa using hm
    rw [if_neg hm] at DR;go_wp2;go_roundg (ls.length-(k+1))
    case measure=>omega
    case rel=>exact⟨k+1,_,_,by omega,rfl,rfl,by go_num,HI.o,DR.o,hb2.o,Cf.o⟩
  .have d1:=mM k ls.length;have e:k=ls.length:=by omega
   have RES:Hid (jG ls mode=acc):=by have:=HF.o;rw [e,List.drop_length] at this;exact this.symm
   clear HF e;go_wp2;go_ret;exact⟨_,rfl,HB.o,by rw [RES.o];exact HO.o⟩
def Sa (ps:List Pu.aJ) (acc:List Nat) (p:Nat):List Nat:=Pu.un acc (Pu.nx ps p)
theorem Pb (B g:Nat) (ps:List Pu.aJ) (ss:List aN) (vp vs:V_) (ts:List (aN × V_)) (vr:V_) (set:List Nat) (w:W_) (h:Fd B g ps ss vp vs ts w) (hok:iU ps) (hl:ps.length<=1000) (hr:ed w vr set) (hi:sJ ps.length set) :
  C_ 86 #[p_ g,vr] w (RO (ji ps set) w):=by
 obtain⟨av,cv,rfl,hv1,hv2,hv3⟩:=hr.form;have H0:=bK h;have OK:=bK hok;have HR:=bK hr;have HI:=bK hi;have il:=hi.len;have B0:Hid (B_ w (w.alloc (c_ #[] 3))):=mi _;clear h hok hr hi;go_enter Tryz.func86,Tryz.ntmps86
 go_wp2_with fail
 go_loopg [5,7,11] set.length (fun gk rv _ kv wx=>∃(k:Nat) (acc:List Nat) (r:V_),k<=set.length/\gk=set.length-k/\rv=r/\kv=I_ k/\sJ ps.length acc/\(set.drop k).foldl (Sa ps) acc=ji ps set/\B_ w wx/\wx.ownsRow w.heap.size 3 1 r acc.length (bV acc))
 case atStart=>exact⟨0,[],_,zl_ _,rfl,rfl,rfl,.nil _,rfl,B0.o,rV _ _ _⟩
 case round=>
  clear B0;obtain⟨k,acc,r,kl,rfl,rfl,rfl,hin,hf,hb,ho⟩:=hrel;have HF:=bK hf;have HB:=bK hb;have HO:=bK ho;have HIN:=bK hin;have agj:=hin.len;obtain⟨ar,cr,rfl,_,_⟩:=dS ho;clear hf hb ho hin;by_cases hlt:k<set.length
  .have d1:=nV k set.length;obtain⟨p,hp⟩:=qG set k hlt;have hpl:p<ps.length:=HI.o.2 p (mg_ hp);obtain⟨x,hx⟩:=qG ps p hpl;have nxx:Pu.nx ps p=x.next:=by unfold Pu.nx;rw [hx]
   have DR:Hid ((set.drop (k+1)).foldl (Sa ps) (Pu.un acc x.next)=ji ps set):=by have:=HF.o;rw [List.drop_eq_getElem?_toList_append,hp] at this;show _=_;rw [<-this,<-nxx];rfl
   clear HF;have F1:=H0.o.below HB.o;obtain⟨gp,cap,an,nn,cn,ev,cc,hn,_⟩:=F1.pl.get hx;subst ev;have c0:=bP 0 F1.aQ rfl;obtain⟨gr,er,_,rc⟩:=(HR.o.below HB.o).some (by omega);subst er;have rk:=rc k p hp;have hxi:=OK.o x (mg_ hx);have xl:=hxi.len;have XI:=bK hxi;have XN:=bK hn;have wi:=kg k;have Mr:=jg p;have Ij:(p:Int)<ps.length:=by omega
   clear rc F1 hx hp nxx hxi hn
   go_wp2_with fail
   refine (pq _ _ acc x.next wr (dH HO.o (zl_ _)) XN.o (by omega) (by omega)).mono ?_
   rintro e w3 ⟨u0,rfl,hb3,hu⟩;have B3:=bK (iT HB.o hb3);have U3:Hid (w3.ownsRow w.heap.size 3 1 u0 (Pu.un acc x.next).length (bV (Pu.un acc x.next))):=dH hu HB.o.size;have I3:=bK (HIN.o.un XI.o);clear hb3 hu HO c0 cc rk;go_wp2;go_roundg (set.length-(k+1))
   case measure=>omega
   case rel=>exact⟨k+1,_,_,by omega,rfl,rfl,by go_num,I3.o,DR.o,B3.o,U3.o⟩
  .have d1:=mM k set.length;have e:k=set.length:=by omega
   have RES:Hid (ji ps set=acc):=by have:=HF.o;rw [e,List.drop_length] at this;exact this.symm
   clear HF e;go_wp2;go_ret;exact⟨_,rfl,HB.o,by rw [RES.o];exact HO.o⟩
theorem Q5 (B g:Nat) (ps:List Pu.aJ) (ss:List aN) (vp vs:V_) (ts:List (aN × V_)) (vr:V_) (set:List Nat) (b:Nat) (w:W_) (h:Fd B g ps ss vp vs ts w) (hl:ps.length<=1000) (hr:ed w vr set) (hi:sJ ps.length set) (hb:b<256) :
  C_ 117 #[p_ g,vr,I_ b] w (RO (Pu.taking ps set b) w):=by
 obtain⟨av,cv,rfl,hv1,hv2,hv3⟩:=hr.form;have H0:=bK h;have HR:=bK hr;have HI:=bK hi;have il:=hi.len;have B0:Hid (B_ w (w.alloc (c_ #[] 3))):=mi _;clear h hr hi;go_enter Tryz.func117,Tryz.ntmps117
 go_wp2_with fail
 go_loopg [7,9,13] set.length (fun gk rv _ kv wx=>∃(k:Nat) (acc:List Nat) (r:V_),k<=set.length/\gk=set.length-k/\rv=r/\kv=I_ k/\acc.length<=k/\acc++Pu.taking ps (set.drop k) b=Pu.taking ps set b/\B_ w wx/\wx.ownsRow w.heap.size 3 1 r acc.length (bV acc))
 case atStart=>exact⟨0,[],_,zl_ _,rfl,rfl,rfl,di,rfl,B0.o,rV _ _ _⟩
 case round=>
  clear B0;obtain⟨k,acc,r,kl,rfl,rfl,rfl,agj,hf,hb,ho⟩:=hrel;have HF:=bK hf;have HB:=bK hb;have HO:=bK ho;obtain⟨ar,cr,rfl,_,_⟩:=dS ho;clear hf hb ho;by_cases hlt:k<set.length
  .have d1:=nV k set.length;obtain⟨p,hp⟩:=qG set k hlt;have hpl:p<ps.length:=HI.o.2 p (mg_ hp);obtain⟨x,hx⟩:=qG ps p hpl;have tkx:Pu.aZ ps p b=x.takes b:=by unfold Pu.aZ;rw [hx]
   have DR:acc++((if x.takes b=true then [p] else [])++Pu.taking ps (set.drop (k+1)) b)=Pu.taking ps set b:=by have:=HF.o;rw [List.drop_eq_getElem?_toList_append,hp] at this;rw [<-this];congr 1;unfold Pu.taking;simp only [Option.toList,List.singleton_append,List.filter_cons,tkx];split <;> simp_all
   clear HF;have F1:=H0.o.below HB.o;obtain⟨gp,cap,an,nn,cn,ev,_,_,ct⟩:=F1.pl.get hx;subst ev;have c0:=bP 0 F1.aQ rfl;have tb:=ct b hb;obtain⟨gr,er,_,rc⟩:=(HR.o.below HB.o).some (by omega);subst er;have rk:=rc k p hp;have wi:=kg k;have Mr:=jg p;have Ij:(p:Int)<ps.length:=by omega
   have ib0:=jg b;have ib1:(b:Int)<256:=by omega
   have sz:=HB.o.size;clear rc F1 hx hp tkx ct
   cases ht:x.takes b with
   | true=>
    rw [ht] at tb DR;rw [if_pos rfl] at DR;have DR:=bK DR
    go_wp2_with (at_builtin;go_must (refine fP rfl (.tmp 27) (.tmp 29) rfl w.heap.size _ acc [p] rfl (oa_ HO.o _) (some (a_ wr.heap.size 0)) 1 1 rfl ⟨rfl,.inr ⟨_,rfl,fun j0 x0 h0=>jw (xs:=[I_ p]) rfl j0 _ (by cases j0 with | zero=>simp at h0;subst h0;rfl | succ j0=>simp at h0)⟩⟩ (by simp;omega) (by simp;omega) ?_);intro v2 w2 dw bS)
    have hb2:B_ w w2:=(HB.o.alloc sz _).grown bS (by simp;omega) (fun k' h=>(ol_ HO.o k' h).1);have D2:Hid ((acc++[p])++Pu.taking ps (set.drop (k+1)) b=Pu.taking ps set b):=by show _=_;rw [<-DR.o];simp
    have L2:Hid ((acc++[p]).length<=k+1):=by show _<=_;simp;omega
    have O2:=bK dw;clear bS dw;go_roundg (set.length-(k+1))
    case measure=>omega
    case rel=>exact⟨k+1,acc++[p],_,by omega,rfl,rfl,by go_num,L2.o,D2.o,hb2,O2.o⟩
   | false=>
    rw [ht] at tb DR;rw [if_neg (by decide)] at DR;have DR:=bK DR;go_wp2;go_roundg (set.length-(k+1))
    case measure=>omega
    case rel=>exact⟨k+1,acc,_,by omega,rfl,rfl,by go_num,by omega,DR.o,HB.o,HO.o⟩
  .have d1:=mM k set.length;have e:k=set.length:=by omega
   have RES:Hid (Pu.taking ps set b=acc):=by have:=HF.o;rw [e,List.drop_length] at this;show _=_;rw [<-this];exact List.append_nil _
   clear HF e;go_wp2;go_ret;exact⟨_,rfl,HB.o,by rw [RES.o];exact HO.o⟩
theorem Sm (B g:Nat) (ps:List Pu.aJ) (ss:List aN) (vp vs:V_) (ts:List (aN × V_)) (w:W_) (h:Fd B g ps ss vp vs ts w) :
  C_ 85 #[p_ g] w (fun e w'=>w'=w/\e=.returned (.bool (decide (ss.length<=42)))):=by
 have c1:=bP 1 h.aQ rfl;obtain⟨av,cv,rfl,_,_⟩:=dS h.own;rw [h.len] at c1;clear h
 have d1:decide ((ss.length:Int)<=42)=decide (ss.length<=42):=by
  by_cases hk:ss.length<=42
  .rw [dt_ hk,dt_ (by omega)]
  .rw [dn_ hk,dn_ (by omega)]
 go_enter Tryz.func85,Tryz.ntmps85;go_wp2;go_ret
 exact⟨rfl,by rw [<-d1];rfl⟩
def xz:List V_:=n_::List.replicate 256 (I_ 0)
theorem pg:xz.length=257:=by unfold xz;rw [lc_,lp_]
theorem xA:(Tryz.prog.info? 142).map (fun i=>(i.zero,i.size,i.bytes))=some (some (.agg xz.toArray),257,2072):=by kernel_rfl
theorem IG (w:W_):(zeroValue 142).run Tryz.prog w=.ok (.agg xz.toArray) w:=by obtain⟨i,h1,h2,_⟩:=ip_ xA;simp [zeroValue,typeInfo,go_sem,h1,h2]
theorem zV:(Tryz.prog.info? 142).map (·.size)=some 257:=by obtain⟨i,h1,_,h3,_⟩:=ip_ xA;rw [h1,Option.map_some,h3]
theorem Wi (a:Option Addr) (n c:Nat):Tryz.prog.built 142 [(0,.slice a n c)]=some ((Value.slice a n c)::List.replicate 256 (I_ 0)).toArray:=by kernel_rfl
theorem lU {t:aN × V_} (h:t.1.longer.length=256):(nS t).length=257:=by simp [nS,gX,h]
theorem TQ {ts:List (aN × V_)} (h:∀t∈ts,t.1.longer.length=256) {p j:Nat} {q:aN × V_} (hp:ts[p]?=some q) (hj:j<257):(Od ts)[p*257+j]?=(nS q)[j]?:=by
 induction ts generalizing p with
 | nil=>simp at hp
 | cons z r ih=>
  rw [xC];have hz:=lU (h z (ms_ ..))
  cases p with
  | zero=>rw [List.getElem?_cons_zero] at hp;cases hp;rw [Nat.zero_mul,Nat.zero_add,al_ (by omega)]
  | succ p=>rw [cs_] at hp;rw [ar_ (by omega),hz,show (p+1)*257+j-257=p*257+j by omega];exact ih (fun t ht=>h t (mc_ _ ht)) hp
theorem Fz {t:aN × V_} {a:Option Addr} {n c:Nat} (h:t.2=.slice a n c):∀u∈nS t,u.oneCell'=true:=by
 intro u hu;rcases mm_.1 hu with e | e
 .rw [e,h];rfl
 .simp only [bV,List.mem_map] at e;obtain⟨z,_,rfl⟩:=e;rfl
theorem Fd.get {B g:Nat} {ss:List aN} {vp vs:V_} {ts:List (aN × V_)} {W:W_} (h:Fd B g ps ss vp vs ts W) {k:Nat} {x:aN} (hk:ss[k]?=some x) :
  ∃gs cap a n c,vs=s_ gs ss.length cap/\ts[k]?=some (x,.slice a n c)/\W.rangeAt gs (k*257) (nS (x,.slice a n c))/\ed W (.slice a n c) x.places/\x.longer.length=256:=by
 rw [<-h.ss,gm_] at hk
 cases hq:ts[k]? with
 | none=>rw [hq] at hk;cases hk
 | some q=>
  rw [hq] at hk;simp only [Option.map_some,Option.some.injEq] at hk;subst hk;have hm:=mg_ hq;have n1:=h.nx q hm;obtain⟨a,c,e1,_⟩:=n1.form;have kl:k<ts.length:=(ge_.1 hq).1;obtain⟨gs,cap,ev,_,_⟩:=dJ h.own (by omega);have eq:q=(q.1,.slice a q.1.places.length c):=by rw [<-e1]
  refine⟨gs,cap,a,q.1.places.length,c,by rw [ev,h.len],by rw [<-eq],?_,by rw [<-e1];exact n1,h.ln q hm⟩;intro j u hu;rw [<-eq] at hu;have hj:j<257:=by have:=(ge_.1 hu).1;rwa [lU (h.ln q hm)] at this
  have hc:=TQ h.ln hq hj;rw [hu] at hc;have ho:=h.own;rw [ev] at ho;exact bT ho hc
structure Sk (B:Nat) (w w':W_):Prop where
 lo:Below B w w'
 jy:∀(k:Nat) (cs:Array V_) (t:TypeId) (fr:Nat × Nat),w.heap[k]?=some (c_ cs t fr)->t≠189->t≠142->w'.heap[k]?=some (c_ cs t fr)
section
variable {B:Nat} {w w' w'':W_}
theorem Sk.refl (B:Nat) (w:W_):Sk B w w:=⟨Br_ _ _,fun _ _ _ _ h _ _=>h⟩
theorem Sk.trans (h:Sk B w w') (h':Sk B w' w''):Sk B w w'':=⟨h.lo.trans h'.lo,fun k cs t fr hk h1 h2=>h'.jy k cs t fr (h.jy k cs t fr hk h1 h2) h1 h2⟩
theorem Sk.below (hB:B<=w.heap.size) (h:B_ w w'):Sk B w w':=⟨h.mono hB,fun k cs t fr hk _ _=>by
 have hl:=(Array.getElem?_eq_some_iff.1 hk).1;rw [h.block k hl]
 exact hk⟩
theorem Sk.grown {g t0:Nat} {xs:List V_} (hb:dh w g t0 xs) (hg:B<=g) (ht:t0=189\/t0=142) (h:w.grownBy w' (some g)):Sk B w w':=by
 refine⟨(Br_ _ _).grown h (by have:=bO hb;omega) (fun k e=>by cases e;exact hg),fun k cs t fr hk h1 h2=>?_⟩;have hl:=(Array.getElem?_eq_some_iff.1 hk).1
 rw [h.block k hl (fun e=>by
  cases e
  unfold dh at hb;rw [hb] at hk;cases hk;rcases ht with ht | ht
  .exact h1 ht
  .exact h2 ht)]
 exact hk
theorem Sk.row {size n:Nat} {xs:List V_} (ho:w.ownsRow B 142 size v n xs) (hB:B<=w.heap.size) (h:w.grownBy w' v.ownBlock):Sk B w w':=by
 refine⟨(Br_ _ _).grown h hB (fun k hk=>(ol_ ho k hk).1),fun k cs t fr hk h1 h2=>?_⟩;have hl:=(Array.getElem?_eq_some_iff.1 hk).1
 rw [h.block k hl (fun e=>by
  rcases ho.2 with ⟨rfl,_⟩ | ⟨g,cap,cur,rfl,_,h4,_⟩
  .cases e
  .cases e
   rw [h4] at hk;cases hk
   exact h2 rfl)]
 exact hk
theorem Sk.rows {B' t size n:Nat} {xs:List V_} (h:Sk B w w') (hn:w.ownsRow B' t size v n xs) (h1:t≠189) (h2:t≠142):w'.ownsRow B' t size v n xs:=by
 refine⟨hn.1,?_⟩;rcases hn.2 with h0 | ⟨g,cap,cur,h3,h4,h5,h6⟩
 .exact .inl h0
 .exact .inr ⟨g,cap,cur,h3,h4,h.jy g _ _ _ h5 h1 h2,h6⟩
theorem Sk.jF {l:List Nat} (h:Sk B w w') (hn:ed w v l):ed w' v l:=h.rows hn (by decide) (by decide)
theorem Sk.plm {B':Nat} (h:Sk B w w') (hn:Dm B' w v ps):Dm B' w' v ps:=by obtain⟨qs,k1,k2,k3⟩:=hn;exact⟨qs,h.rows k1 (by decide) (by decide),k2,fun q hq=>h.jF (k3 q hq)⟩
end
theorem Ab {w:W_} {o:Oper} {a:Act} {Q:Exit->Act->W_->Prop} (hgd:o.guard=none) (s x:Operand)
  (ho:o.op=.call { callee:=.builtin .append,args:=#[s,x],argTypes:=#[87,87] }) (base:Nat) (v:V_) (ts:List (aN × V_)) (hs:a.eval s=v) (fH:w.ownsRow base 142 257 v ts.length (Od ts))
  (gx:Nat) (q:aN × V_) (hx:a.eval x=s_ gx 1 1) (hb:dh w gx 142 (nS q)) (hq:∀u∈nS q,u.oneCell'=true) (hq2:q.1.longer.length=256) (kU:ts.length<=1000) (nX:base<=w.heap.size)
  (h:∀v' w',w'.ownsRow base 142 257 v' (ts++[q]).length (Od (ts++[q]))->w.grownBy w' v.ownBlock->wpList Tryz.prog ops Q rest (a.put o.dst v') w'):wpList Tryz.prog ops Q (o::rest) a w:=by
 obtain⟨il,hil,hl0,hl1,hl2⟩:=ip_ xA;refine wo_ _ hgd s x 87 ho base 142 il _ 257 2072 Tryz.underlying87 hil hl0 hl1 hl2 (by simp [Value.cells,pg]) (by decide) v ts.length (Od ts) hs fH (a_ gx 0) 1 1 (nS q) hx (by rw [lU hq2]) ?_ hq (by unfold maxLen;omega) (by omega) nX ?_
 .intro j y hy;have:=bM hb hy;simpa [add_eq] using this
 .intro v' w' h1 h2 _;refine h v' w' ?_ h2;rw [la_,QV];have e:Od [q]=nS q:=by simp [Od]
  rw [e];exact h1
theorem oz {P:Program} {w:W_} {o:Oper} {a:Act} {Q:Exit->Act->W_->Prop} (hgd:o.guard=none) (t:TypeId) (i:Nat) (x:Operand) (v:V_) (ho:o.op=.build t #[(i,x)]) (hx:a.eval x=v) (cells:Array V_) (hf:P.built t [(i,v)]=some cells)
  (h:wpList P ops Q rest (a.put o.dst (.agg cells)) w):wpList P ops Q (o::rest) a w:=
 wpList_plain hgd fun K hK=>by subst hx;have hr:=run_build (P:=P) w t #[(i,a.eval x)] cells hf;unfold Oper.wp execOp;simp only [ho,Sem.run_bind,List.map_toArray,List.map_cons,List.map_nil];rw [hr];exact hK _ _ h
theorem Gc {P:Program} {w:W_} {o:Oper} {a:Act} {Q:Exit->Act->W_->Prop} (hgd:o.guard=none) (t e:TypeId) (x:Operand) (c:List V_) (ho:o.op=.buildSlice t 1 #[(0,x)]) (hx:a.eval x=.agg c.toArray)
  (ie:TypeInfo) (z:List V_) (size:Nat) (hu:P.underlying t=some (.slice e)) (hie:P.info? e=some ie) (hz:ie.zero=some (.agg z.toArray)) (hs:ie.size=size) (_hzl:z.length=size) (hcl:c.length=size) (hsmall:¬1*size > 2 ^ 24) (hpos:¬1*size=0)
  (h:wpList P ops Q rest (a.put o.dst (s_ w.heap.size 1 1)) (w.alloc (c_ c.toArray e))):wpList P ops Q (o::rest) a w:=
 wpList_plain hgd fun K hK=>by refine eQ t e 0 x (.agg c.toArray) ho hx c.toArray ie _ size hu hie hz hs hsmall hpos ?_ (hK _ _ h);rw [ru];have:=uz (fun i=>some (i*size,size)) c ((List.range (1*size)).map fun x=>((Value.agg z.toArray).cells)[x % (Value.agg z.toArray).cells.size]!) (by rw [hcl];simp) (by rw [hcl,lm_,List.length_range];omega);rw [hcl,List.drop_of_length_le (by rw [lm_,List.length_range];omega),List.append_nil] at this;exact this
namespace Pu
theorem Pz (t:List Nat) (ss:List aN):∀(k:Nat) (x:aN),ss[k]?=some x->iI t (ss.drop k)=if x.places=t then 0 else iI t (ss.drop (k+1))+1:=by intro k x h;rw [List.drop_eq_getElem?_toList_append,h];rfl
theorem Ml (t:List Nat):∀ss:List aN,iI t ss<=ss.length:=by
 intro ss
 induction ss with
 | nil=>exact di
 | cons s r ih=>
  unfold iI;split
  .exact zl_ _
  .simp;exact ih
end Pu
def ad1 (B g:Nat) (ps:List Pu.aJ) (ss':List aN) (n:Nat) (w:W_) (e:Ending) (w':W_):Prop:=
 e=.returned (I_ n)/\Sk B w w'/\∃vp vs ts,Fd B g ps ss' vp vs ts w'
theorem adM:bV Pu.jU=List.replicate 256 (I_ 0):=by unfold bV Pu.jU;rw [List.map_replicate];rfl
theorem aai (l:List Nat) (v:V_):nS (⟨l,Pu.jU⟩,v)=v::List.replicate 256 (I_ 0):=by unfold nS;rw [adM]
theorem Qn (B g:Nat) (ps:List Pu.aJ) (ss:List aN) (vp vs:V_) (ts:List (aN × V_)) (vr:V_) (t:List Nat) (w:W_) (h:Fd B g ps ss vp vs ts w) (hl:ss.length<=500) (hr:ed w vr t) (hi:t.length<=1000) (hss:∀x∈ss,x.places.length<=1000) :
  C_ 118 #[p_ g,vr] w (ad1 B g ps (gJ ss t) (iI t ss) w):=by
 obtain⟨av,cv,rfl,hv1,hv2,hv3⟩:=hr.form;obtain⟨as2,cs2,rfl,hs1,hs2⟩:=dS h.own;obtain⟨is,his,hz0,hz1,hz2⟩:=ip_ xA;have kU:=h.len;have H0:=bK h;have HR:=bK hr;have HS:=bK hss;have zv:=IG;have BL:B<=w.heap.size:=by have:=h.up;have:=bO h.aQ;omega
 have c1:=bP 1 h.aQ rfl;rw [kU] at c1;clear h hr hss;go_enter Tryz.func118,Tryz.ntmps118
 go_wp2_with fail
 clear c1
 go_loopg [5,6,12] ss.length (fun gk _ _ kv wx=>∃k:Nat,k<=ss.length/\gk=ss.length-k/\kv=I_ k/\iI t ss=k+iI t (ss.drop k)/\B_ w wx)
 case atStart=>exact⟨0,zl_ _,rfl,rfl,by simp,Br_ _ _⟩
 case round=>
  obtain⟨k,kl,rfl,rfl,hf,hb⟩:=hrel;have HF:=bK hf;have HB:=bK hb;clear hf hb;by_cases hlt:k<ss.length
  .have d1:=nV k ss.length;obtain⟨x,hx⟩:=qG ss k hlt;have hxl:=HS.o x (mg_ hx);have F1:=H0.o.below HB.o;obtain⟨gs,cap,ax,nx,cx,ev,_,hrg,hn,hlg⟩:=F1.get hx;rw [<-kU] at ev;cases ev;have wi:=kg k;have Mr:=jg k;have Ij:(k:Int)<ss.length:=by omega
   have DR:=bK (Pz t ss k x hx);have Xh:Hid (dh (wr.alloc (c_ xz.toArray 142)) wr.heap.size 142 xz):=hn_ _ _;have sl:(nS (x,.slice ax nx cx)).length=257:=lU hlg;have B2:Hid (B_ w (wr.alloc (c_ xz.toArray 142))):=HB.o.alloc HB.o.size _;have B3:=bK (ky (g:=wr.heap.size) HB.o.size (nS (x,.slice ax nx cx)) 0 _ B2.o);have BX:=bK (oK (nS (x,.slice ax nx cx)) Xh.o (by rw [pg,sl]));have Xm:=bK hrg;have N1:=bK hn;clear hrg hn F1;go_upto_region 4 with (first | (refine wl_ rfl 142 (.tmp 15) rfl gs (k*257) rfl _ _ Xm.o Tryz.underlying142 rfl (by rw [sl];exact zV) ?_) | (refine ws_ rfl 142 (.tmp 6) (.tmp 16) rfl wr.heap.size 0 (nS (x,.slice ax nx cx)).toArray rfl rfl (by have:=mH Xh.o;rw [pg] at this;simpa [sl] using this) (by simp only [List.size_toArray,sl];exact zV) (oc_ (Fz rfl)) ?_));have bw:B_ wr ((wr.alloc (c_ xz.toArray 142)).setCells wr.heap.size 0 (nS (x,.slice ax nx cx))):=ky (g:=wr.heap.size) di _ 0 _ ((Br_ wr.heap.size wr).alloc di _);have N2:=bK (N1.o.below bw);have R2:=bK (HR.o.below B3.o);have x0:=bP 0 BX.o rfl;clear bw N1 BX Xh Xm B2;generalize (wr.alloc (c_ xz.toArray 142)).setCells wr.heap.size 0 (nS (x,.slice ax nx cx))=W2 at *
   go_wp2_with fail
   refine (Z7 _ _ x.places t W2 N2.o R2.o (by omega) (by omega)).mono ?_
   rintro e w3 ⟨rfl,hb3⟩;have B4:=bK (iT B3.o hb3);clear hb3 B3 N2 R2 x0;by_cases heq:x.places=t
   .rw [dt_ heq];have e0:=DR.o;rw [if_pos heq] at e0;have E1:Hid (iI t ss=k):=by show _=_;rw [HF.o,e0];rfl
    have E2:Hid (gJ ss t=ss):=by show _=_;unfold gJ;rw [E1.o,if_pos hlt]
    clear e0 DR HF heq;go_wp2;go_ret;refine⟨?_,.below BL B4.o,?_⟩
    .rw [E1.o];rfl
    .rw [E2.o];exact⟨_,_,_,H0.o.below B4.o⟩
   .rw [dn_ heq];have e0:=DR.o;rw [if_neg heq] at e0;have E1:Hid (iI t ss=(k+1:Nat)+iI t (ss.drop (k+1))):=by show _=_;rw [HF.o,e0];omega
    clear e0 DR HF heq;go_wp2;go_roundg (ss.length-(k+1))
    case measure=>omega
    case rel=>exact⟨k+1,by omega,rfl,by go_num,E1.o,B4.o⟩
  .have d1:=mM k ss.length;have e:k=ss.length:=by omega
   have E1:Hid (iI t ss=ss.length):=by have:=HF.o;rw [e,List.drop_length] at this;exact this
   have E2:Hid (gJ ss t=ss++[⟨t,Pu.jU⟩]):=by show _=_;unfold gJ;rw [E1.o,if_neg (by omega)]
   clear HF e;have F1:=bK (H0.o.below HB.o);have c1:=bP 1 F1.o.aQ rfl;have f1:=bL F1.o.aQ 1;rw [kU] at c1;have hb2:=(Br_ wr.heap.size wr).alloc di (c_ (nS (⟨t,Pu.jU⟩,.slice av t.length cv)).toArray 142);have F2:=bK (F1.o.below hb2);have R2:=bK ((HR.o.below HB.o).below hb2);have BN:Hid (dh (wr.alloc (c_ (nS (⟨t,Pu.jU⟩,.slice av t.length cv)).toArray 142)) wr.heap.size 142 (nS (⟨t,Pu.jU⟩,.slice av t.length cv))):=hn_ _ _;have B2:=bK (iT HB.o hb2);have SB:=bK (Wi av t.length cv);rw [<-aai t] at SB;have wn:Pu.jU.length=256:=by unfold Pu.jU;rw [lp_]
   have sl:(nS (⟨t,Pu.jU⟩,.slice av t.length cv)).length=257:=lU wn;have sz2:=B2.o.size;have bb:B<=(wr.alloc (c_ (nS (⟨t,Pu.jU⟩,.slice av t.length cv)).toArray 142)).heap.size:=lt_ BL sz2;have gls:=bO F1.o.aQ;have gne:g≠wr.heap.size:=by omega
   clear hb2;go_upto_region 8 with (first | (refine oz rfl 142 0 (.tmp 28) (.slice av t.length cv) rfl rfl _ SB.o ?_) | (refine Gc rfl 87 142 (.tmp 29) (nS (⟨t,Pu.jU⟩,.slice av t.length cv)) rfl rfl is xz 257 Tryz.underlying87 his hz0 hz1 pg sl (by omega) (by omega) ?_) | (at_builtin;refine Ab rfl (.tmp 27) (.tmp 30) rfl B _ ts (by rw [<-kU];rfl) F2.o.own wr.heap.size (⟨t,Pu.jU⟩,.slice av t.length cv) rfl BN.o (Fz rfl) wn (by omega) bb ?_;intro v4 w4 uE nO;obtain⟨a4,c4,rfl,_,_⟩:=dS uE;have fb4:=dR F2.o.own F2.o.aQ (by decide) nO;have k1:=bM (j:=1) fb4 rfl;have kf1:=bL fb4 1;have FB4:=bK fb4;have HO4:=bK uE;have HG4:=bK nO;clear fb4 uE nO c1 f1));have l4:(ts++[((⟨t,Pu.jU⟩:aN),Value.slice av t.length cv)]).length=ss.length+1:=by simp [kU]
   have g5:=gs_ w4 g 1 (.slice a4 (ts++[((⟨t,Pu.jU⟩:aN),Value.slice av t.length cv)]).length c4);have K4:=Sk.row F2.o.own bb HG4.o;have K5:=K4.trans (.grown FB4.o F2.o.up (.inl rfl) g5)
   have FD5:Hid (Fd B g ps (ss++[⟨t,Pu.jU⟩]) vp (.slice a4 (ts++[((⟨t,Pu.jU⟩:aN),Value.slice av t.length cv)]).length c4) (ts++[(⟨t,Pu.jU⟩,.slice av t.length cv)]) (w4.setCell (a_ g 1) (.slice a4 (ts++[((⟨t,Pu.jU⟩:aN),Value.slice av t.length cv)]).length c4))):=by
    refine⟨cO FB4.o 1 _,F2.o.up,K5.plm F2.o.pl,dA HO4.o FB4.o (by decide) g5,by simp [F2.o.ss],fun q hq=>?_,fun q hq=>?_⟩
    .rcases ma_.1 hq with h | h
     .exact K5.jF (F2.o.nx q h)
     .simp at h;subst h;exact K5.jF R2.o
    .rcases ma_.1 hq with h | h
     .exact F2.o.ln q h
     .simp at h;subst h;exact wn
   have SK5:Hid (Sk B w (w4.setCell (a_ g 1) (.slice a4 (ts++[((⟨t,Pu.jU⟩:aN),Value.slice av t.length cv)]).length c4))):=(Sk.below BL B2.o).trans K5;rw [l4] at FD5 SK5;clear g5 K4 K5 HO4 HG4 F2 R2 BN B2 SB F1 FB4;generalize w4.setCell (a_ g 1) (.slice a4 (ss.length+1) c4)=W5 at *;have q1:=bP 1 FD5.o.aQ rfl;have ws:IntKind.i64.wrap ((ss.length:Int)+1-1)=(ss.length:Int):=by rw [oG _ (by omega) (by omega)];omega
   clear k1 kf1;go_wp2;go_ret;exact⟨by rw [E1.o];rfl,SK5.o,by rw [E2.o];exact⟨_,_,_,FD5.o⟩⟩
end Go.Proofs.YtmccnmgaoppogaaGreat
