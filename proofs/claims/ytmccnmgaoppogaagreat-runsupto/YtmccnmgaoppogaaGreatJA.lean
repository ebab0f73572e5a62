import Derived.Test.YtmccnmgaoppogaaGreatKba
namespace Go.Proofs.YtmccnmgaoppogaaGreat
open Pu
set_option linter.all false
set_option maxRecDepth 100000
set_option maxHeartbeats 8000000
open Go.RowKit
variable {W w:W_} {cap:Nat}
theorem GA (B n:Nat) (v vt:V_) (ls:List aD) (t:List Nat) (w:W_) (h:Lm B w v ls) (ht:ed w vt t) (hl:ls.length<=1000) (hn:n<=1000) (hok:∀x∈ls,mI n x.pt) (htl:t.length<=1000) :
  C_ 55 #[v,vt] w (mW (I_ (fU ls t)) w):=by
 obtain⟨av,cv,rfl,hv1,hv2⟩:=h.len;have H0:=bK h;have HT:=bK ht;have OK:=bK hok;clear h hok ht;go_enter Tryz.func55,Tryz.ntmps55
 go_wp2_with fail
 go_loopg [5,6,9] ls.length (fun gk _ _ kv wx=>∃(k:Nat),k<=ls.length/\gk=ls.length-k/\kv=I_ k/\kz t (ls.drop k) k=fU ls t/\B_ w wx)
 case atStart=>exact⟨0,zl_ _,rfl,rfl,rfl,Br_ _ _⟩
 case round=>
  obtain⟨k,kl,rfl,rfl,hf,hb⟩:=hrel;have HF:=bK hf;have HB:=bK hb;clear hf hb;by_cases hlt:k<ls.length
  .have d1:=nV k ls.length;obtain⟨x,hx⟩:=qG ls k hlt;have okx:=OK.o x (mg_ hx);have DR:Hid ((if Pu.meet x.pt.last t=true then (k:Int) else kz t (ls.drop (k+1)) (k+1))=fU ls t):=by have:=HF.o;rw [List.drop_eq_getElem?_toList_append,hx] at this;exact this
   clear HF;obtain⟨g,cap,af,mf,cf,al,nl,cl,ev,hr,n1,n2⟩:=(H0.o.below HB.o).get hx;cases ev;have wi:=kg k;have Mr:=jg k;have Ij:(k:Int)<ls.length:=by omega
   have hbb:=(Br_ wr.heap.size wr).alloc di (c_ (kC (x,.slice af mf cf,.slice al nl cl)).toArray 85);have hb2:=bK (iT HB.o hbb);have BX:Hid (dh (wr.alloc (c_ (kC (x,.slice af mf cf,.slice al nl cl)).toArray 85)) wr.heap.size 85 (kC (x,.slice af mf cf,.slice al nl cl))):=hn_ _ _;have N2:=bK (n2.below hbb);have NT:=bK ((HT.o.below HB.o).below hbb);have HR:=bK hr;have xl:=okx.2.len;clear hr hx n1 n2 hbb okx;obtain⟨mo,em,ac,md,⟨ep,fi,la⟩,dn⟩:=x;simp only [kC] at hb2 BX HR N2 NT;simp only at xl DR;go_upto_region 4 with (refine wl_ rfl 85 (.tmp 12) rfl g (k*8) rfl _ _ HR.o Tryz.underlying85 rfl qZ ?_);have x6:=bP 6 BX.o rfl;clear HR BX;generalize wr.alloc (c_ #[I_ mo,I_ em,I_ ac,I_ md,.bool ep,.slice af mf cf,.slice al nl cl,.bool dn] 85)=W2 at *
   go_wp2_with fail
   refine (Zw _ _ la t W2 N2.o NT.o (by omega) (by omega)).mono ?_
   rintro e w3 ⟨rfl,hb3⟩;have B3:=bK (iT hb2.o hb3);clear hb3 hb2 N2 NT x6
   cases hm:Pu.meet la t with
   | true=>
    have DR2:Hid (fU ls t=(k:Int)):=by have:=DR.o;rw [if_pos hm] at this;exact this.symm
    clear DR hm;go_wp2;go_ret;exact⟨by rw [DR2.o];rfl,B3.o⟩
   | false=>
    have DR2:Hid (kz t (ls.drop (k+1)) (k+1)=fU ls t):=by have:=DR.o;rw [if_neg (by rw [hm];simp)] at this;exact this
    clear DR hm;go_wp2;go_roundg (ls.length-(k+1))
    case measure=>omega
    case rel=>exact⟨k+1,by omega,rfl,by go_num,DR2.o,B3.o⟩
  .have d1:=mM k ls.length;have e:k=ls.length:=by omega
   have RES:Hid (fU ls t=-1):=by have:=HF.o;rw [e,List.drop_length] at this;exact this.symm
   clear HF e;go_wp2;go_ret;exact⟨by rw [RES.o];rfl,HB.o⟩
theorem qB.get {B:Nat} {v:V_} {ss:List aN} (h:qB B W v ss) {k:Nat} {x:aN} (hk:ss[k]?=some x) :
  ∃gs cap a n c,v=s_ gs ss.length cap/\W.rangeAt gs (k*257) (nS (x,.slice a n c))/\ed W (.slice a n c) x.places/\x.longer.length=256:=by
 obtain⟨ts,h1,h2,h3,h4⟩:=h;have hl:ts.length=ss.length:=by rw [<-h2,lm_]
 rw [<-h2,gm_] at hk
 cases hq:ts[k]? with
 | none=>rw [hq] at hk;cases hk
 | some q=>
  rw [hq] at hk;simp only [Option.map_some,Option.some.injEq] at hk;subst hk;have hm:=mg_ hq;have n1:=h3 q hm;obtain⟨a,c,e1,_⟩:=n1.form;have kl:k<ts.length:=(ge_.1 hq).1;obtain⟨gs,cap,ev,_,_⟩:=dJ h1 (by omega);subst ev;have eq:q=(q.1,.slice a q.1.places.length c):=by rw [<-e1]
  refine⟨gs,cap,a,q.1.places.length,c,by rw [hl],?_,by rw [<-e1];exact n1,h4 q hm⟩;intro j u hu;rw [<-eq] at hu;have hj:j<257:=by have:=(ge_.1 hu).1;rwa [lU (h4 q hm)] at this
  have hc:=TQ h4 hq hj;rw [hu] at hc;exact bT h1 hc
theorem qB.ace {B:Nat} {gs n:Nat} {ss:List aN} (h:qB B W (s_ gs n cap) ss) {k:Nat} {x:aN} (hk:ss[k]?=some x):W.rangeAt gs (k*257+1) (bV x.longer)/\x.longer.length=256/\n=ss.length:=by
 obtain⟨gs',cap',a,n',c,e,hr,_,hl⟩:=h.get hk;cases e
 refine⟨fun j u hu=>?_,hl,rfl⟩;have:=hr (1+j) u (by unfold nS;rw [Nat.add_comm,cs_];exact hu);rwa [<-Nat.add_assoc] at this
def ad2 (v:V_) (w:W_) (e:Ending) (w':W_):Prop:=e=.returned v/\∃m,w'=w.drewN m
theorem xn (h:∃m,W=w.drewN m):B_ w W:=by obtain⟨m,rfl⟩:=h;exact bd_ (Br_ _ _) m
theorem xq (h:∃m,W=w.drewN m) (n:Nat):∃m,W.drewN n=w.drewN m:=by obtain⟨m,rfl⟩:=h;exact⟨m+n,World.drewN_drewN ..⟩
theorem E9 (w:W_):∃m,w=w.drewN m:=⟨0,rfl⟩
theorem yt (cs:Array V_) (i:Nat) (v:V_) (hi:i<256) (hv:cs[i]?=some v) (w:W_):(Instr.index 140 (.agg cs) (I_ i)).run Tryz.prog w=.ok v w:=by simp [Instr.index,run_underlying Tryz.underlying140,asIntOf,hi,hv,go_sem]
theorem GH (B gm a b gs n cap:Nat) (vr vk:V_) (ss:List aN) (kinds:List Nat) (x y:aN) (w:W_) (hm:dh w gm 139 [s_ gs n cap,vr]) (hs:qB B w (s_ gs n cap) ss) (hk:ed w vk kinds) (hx:ss[a]?=some x) (hy:ss[b]?=some y) (hlt:∀z∈ss,∀n∈z.longer,n<kinds.length) (_hl:ss.length<=1000) (hkl:kinds.length<=1000) :
  C_ 144 #[p_ gm,I_ a,I_ b,vk] w (ad2 (.bool (oD ss kinds a b 256)) w):=by
 obtain⟨hr,xl,rfl⟩:=hs.ace hx;obtain⟨hry,yl,_⟩:=hs.ace hy;obtain⟨ak,ck,rfl,_,_,_⟩:=hk.form;have al:=(ge_.1 hx).1;have bl:=(ge_.1 hy).1;have ia0:=jg a;have ia1:(a:Int)<ss.length:=by omega
 have ib0:=jg b;have ib1:(b:Int)<ss.length:=by omega
 have c0:=bP 0 hm rfl;have HR:=bK hr;go_enter Tryz.func144,Tryz.ntmps144;go_upto_region 2 with (refine wl_ rfl 140 (.tmp 17) rfl gs (a*257+1) rfl _ _ HR.o Tryz.underlying140 rfl (by rw [gX,xl];kernel_rfl) ?_)
 have HM:=bK hm;have HS:=bK hs;have HK:=bK hk;have IY:=bK hlt;have HX:=bK hx;have HY:=bK hy;have HRY:=bK hry;clear hm hs hk hlt hx hy hr hry HR c0
 go_loopg [9,10,19] 256 (fun gk _ _ cv wx=>∃(c:Nat),c<=256/\gk=256-c/\cv=I_ c/\(∃m,wx=w.drewN m)/\∀i,i<c->kinds.getD (qp ss a i) 0=kinds.getD (qp ss b i) 0)
 case atStart=>exact⟨0,zl_ _,rfl,rfl,E9 _,fun i hi=>absurd hi (Nat.not_lt_zero _)⟩
 case round=>
  obtain⟨c,cl,rfl,rfl,hmq,he⟩:=hrel;have HB:=bK hmq;have hb:=xn hmq;clear hmq;have HE:=bK he;by_cases hc:c<256
  .have d1:decide ((c:Int)<256)=true:=dt_ (by omega);have wi:=kg c;have ic0:=jg c;have ic1:(c:Int)<256:=by omega
   obtain⟨p,hp⟩:=qG x.longer c;obtain⟨q,hq⟩:=qG y.longer c;have pl:=IY.o x (mg_ HX.o) p (mg_ hp);have ql:=IY.o y (mg_ HY.o) q (mg_ hq);have ip0:=jg p;have ip1:(p:Int)<kinds.length:=by omega
   have iq0:=jg q;have iq1:(q:Int)<kinds.length:=by omega
   have c0:=bP 0 (bN HM.o hb (bO HM.o)) rfl;obtain⟨gk,ek,_,kc⟩:=(HK.o.below hb).some (by omega);subst ek;obtain⟨kp,hkp⟩:∃z,kinds[p]?=some z:=⟨_,gg_ pl⟩;obtain⟨kq,hkq⟩:∃z,kinds[q]?=some z:=⟨_,gg_ ql⟩;have k1:=kc p kp hkp;have k2:=kc q kq hkq;have y1:wr.cell? (a_ gs (b*257+1+c))=some (I_ q):=((HS.o.below hb).ace HY.o).1 c _ (iD hq);have xc:(bV x.longer).toArray[c]?=some (I_ p):=by rw [List.getElem?_toArray];exact iD hp
   have hix:=yt _ c _ hc xc;have LA:Hid (qp ss a c=p):=by show _=_;unfold qp;rw [HX.o];simp [gd_,hp]
   have LB:Hid (qp ss b c=q):=by show _=_;unfold qp;rw [HY.o];simp [gd_,hq]
   have GP:Hid (kinds.getD p 0=kp/\kinds.getD q 0=kq):=by
    refine⟨?_,?_⟩
    .rw [gd_,hkp];rfl
    .rw [gd_,hkq];rfl
   clear hb he hp hq hkp hkq kc xc pl ql;by_cases e:kp=kq
   focus
    have HE2:Hid (∀i,i<c+1->kinds.getD (qp ss a i) 0=kinds.getD (qp ss b i) 0):=fun i hi=>by
     by_cases ei:i=c
     .subst ei;rw [LA.o,LB.o,GP.o.1,GP.o.2];exact e
     .exact HE.o i (by omega)
    subst e;have e3:((kp:Int) != (kp:Int))=false:=by simp
   rotate_left
   focus
    have R:Hid (oD ss kinds a b 256=false):=by show _=_;unfold oD;rw [List.all_eq_false];exact⟨c,List.mem_range.2 hc,by rw [LA.o,LB.o,GP.o.1,GP.o.2];simpa using e⟩
    have e1:((kp:Int) != (kq:Int))=true:=by simp;omega
    have e2:((kp:Int) == (kq:Int))=false:=by simp;omega
    have e3:¬(kp:Int)=kq:=by omega
    have e4:decide ((kp:Int)=kq)=false:=dn_ e3
   rotate_left
   all_goals
    clear HE
    go_wp2_with fail
    go_quiet (fail);have dn:=bK (xq HB.o nq);go_wp2
   .go_roundg (256-(c+1))
    case measure=>omega
    case rel=>exact⟨c+1,by omega,rfl,by go_num,dn.o,HE2.o⟩
   .go_ret
    exact⟨by rw [R.o];rfl,dn.o⟩
  .have d1:decide ((c:Int)<256)=false:=dn_ (by omega);have e:c=256:=by omega
   have R:Hid (oD ss kinds a b 256=true):=by show _=_;unfold oD;rw [List.all_eq_true];intro i hi;rw [decide_eq_true_eq];exact he i (by rw [e];exact List.mem_range.1 hi)
   clear he hb;go_wp2;go_ret;exact⟨by rw [R.o];rfl,HB.o⟩
structure Md (B gm gs cap:Nat) (vr:V_) (ss:List aN) (rs:List Int) (W:W_):Prop where
 b:dh W gm 139 [s_ gs ss.length cap,vr]
 s:qB B W (s_ gs ss.length cap) ss
 r:W.ownsRow B 3 1 vr rs.length (bY rs)
 n:rs.length=ss.length
theorem Md.below {B gm gs cap:Nat} {vr:V_} {ss:List aN} {rs:List Int} {W W':W_} (h:Md B gm gs cap vr ss rs W) (hb:B_ W W'):Md B gm gs cap vr ss rs W':=
 ⟨bN h.b hb (bO h.b),h.s.below hb,bU h.r hb di,h.n⟩
namespace Pu
theorem AF (ss:List aN) (rs:List Int) (kinds:List Nat) (set:Nat):∀l:List Nat,iA ss rs kinds set l<=l.length:=by
 intro l
 induction l with
 | nil=>exact di
 | cons o r ih=>
  unfold iA;split
  .exact zl_ _
  .simp;exact ih
end Pu
theorem PN (B gm gs cap set:Nat) (vr vf vk:V_) (ss:List aN) (rs:List Int) (firsts kinds:List Nat) (w:W_) (hm:Md B gm gs cap vr ss rs w) (hf:ed w vf firsts) (hk:ed w vk kinds) (hset:set<ss.length) (hfl:∀o∈firsts,o<ss.length) (hlt:∀z∈ss,∀n∈z.longer,n<kinds.length) (hl:ss.length<=1000) (hkl:kinds.length<=1000) (hfn:firsts.length<=1000) :
  C_ 119 #[p_ gm,I_ set,vf,vk] w (ad2 (I_ (iA ss rs kinds set firsts:Nat)) w):=by
 obtain⟨af,cf,rfl,_,_,_⟩:=hf.form;have HM:=bK hm;have HF:=bK hf;have HK:=bK hk;have HFL:=bK hfl;have IY:=bK hlt;obtain⟨gr,cr,evr,_,_⟩:=dJ hm.r (by rw [hm.n];omega);subst evr;have RN:Hid (rs.length=ss.length):=hm.n;clear hm hf hk hfl hlt;go_enter Tryz.func119,Tryz.ntmps119
 go_wp2_with fail
 go_loopg [9,10,13] firsts.length (fun gk _ _ iv wx=>∃(i:Nat),i<=firsts.length/\gk=firsts.length-i/\iv=I_ i/\(∃m,wx=w.drewN m)/\iA ss rs kinds set (firsts.drop i)+i=iA ss rs kinds set firsts)
 case atStart=>exact⟨0,zl_ _,rfl,rfl,E9 _,rfl⟩
 case round=>
  obtain⟨i,il,rfl,rfl,hq,hg⟩:=hrel;have HQ:=bK hq;have hb:=xn hq;have HG:=bK hg;clear hq hg;by_cases hi:i<firsts.length
  .have d1:=nV i firsts.length;have wi:=kg i;have ii0:=jg i;have ii1:(i:Int)<firsts.length:=by omega
   obtain⟨o,ho⟩:=qG firsts i hi;have ol:=HFL.o o (mg_ ho);have M2:=HM.o.below hb;obtain⟨gf,ef,_,fc⟩:=(HF.o.below hb).some (by omega);subst ef;have f1:=fc i o ho;have c1:=bP 1 M2.b rfl;obtain⟨ra,hra⟩:∃z,rs[set]?=some z:=⟨_,gg_ (by rw [RN.o];exact hset)⟩;obtain⟨rb,hrb⟩:∃z,rs[o]?=some z:=⟨_,gg_ (by rw [RN.o];exact ol)⟩;have r1:=bT M2.r (show (bY rs)[set]?=some (I_ ra) by simp [bY,hra]);have r2:=bT M2.r (show (bY rs)[o]?=some (I_ rb) by simp [bY,hrb]);have is0:=jg set;have is1:(set:Int)<rs.length:=by have:=RN.o;omega
   have io0:=jg o;have io1:(o:Int)<rs.length:=by have:=RN.o;omega
   have pE:Hid ((if ra=rb/\oD ss kinds set o 256=true then 0 else iA ss rs kinds set (firsts.drop (i+1))+1)+i=iA ss rs kinds set firsts):=by
    have:=HG.o;rw [List.drop_eq_getElem?_toList_append,ho] at this;have e1:rs.getD set 0=ra:=by rw [gd_,hra];rfl
    have e2:rs.getD o 0=rb:=by rw [gd_,hrb];rfl
    rw [<-e1,<-e2];exact this
   obtain⟨x,hx⟩:=qG ss set hset;obtain⟨y,hy⟩:=qG ss o ol;have fw:Hid (∀n,C_ 144 #[p_ gm,I_ set,I_ o,vk] (wr.drewN n) (ad2 (.bool (oD ss kinds set o 256)) (wr.drewN n))):=fun n=>by have hb2:B_ wr (wr.drewN n):=bd_ (Br_ _ _) n;have M3:=M2.below hb2;exact GH B gm set o gs ss.length cap _ vk ss kinds x y _ M3.b M3.s ((HK.o.below hb).below hb2) hx hy IY.o hl hkl
   clear fc hra hrb ho hx hy M2 hb HG ol;by_cases e:ra=rb
   .have e1:(ra == rb)=true:=by simp [e]
    have e2:decide (ra=rb)=true:=dt_ e
    cases ha:oD ss kinds set o 256 with
    | true=>?_
    | false=>?_
    focus
     have R:Hid (iA ss rs kinds set firsts=i):=by have:=pE.o;rw [if_pos ⟨e,ha⟩] at this;show _=_;omega
    rotate_left
    focus
     have R:Hid (iA ss rs kinds set (firsts.drop (i+1))+(i+1)=iA ss rs kinds set firsts):=by have:=pE.o;rw [if_neg (by rw [ha];simp)] at this;show _=_;omega
    rotate_left
    all_goals
     rw [ha] at fw;clear pE ha;subst e
     go_wp2_with fail
     go_quiet ((go_at_call 144;exact Calls.quiet_of (fw.o _)));have dn:=bK (xq HQ.o nq);go_wp2
    .go_ret
     exact⟨by rw [R.o];rfl,dn.o⟩
    .go_roundg (firsts.length-(i+1))
     case measure=>omega
     case rel=>exact⟨i+1,by omega,rfl,by go_num,dn.o,R.o⟩
   .have e1:(ra == rb)=false:=by simp [e]
    have e2:decide (ra=rb)=false:=dn_ e;have R:Hid (iA ss rs kinds set (firsts.drop (i+1))+(i+1)=iA ss rs kinds set firsts):=by have:=pE.o;rw [if_neg (fun h=>e h.1)] at this;show _=_;omega
    clear pE fw
    go_wp2_with fail
    go_quiet (fail);have dn:=bK (xq HQ.o nq);go_wp2;go_roundg (firsts.length-(i+1))
    case measure=>omega
    case rel=>exact⟨i+1,by omega,rfl,by go_num,dn.o,R.o⟩
  .have d1:=mM i firsts.length;have e:i=firsts.length:=by omega
   have R:Hid (iA ss rs kinds set firsts=firsts.length):=by have:=HG.o;rw [e,List.drop_length] at this;have e0:iA ss rs kinds set []=0:=rfl;show _=_;omega
   clear HG hb;go_wp2;go_ret;exact⟨by rw [R.o];rfl,HQ.o⟩
theorem uF:(Tryz.prog.info? 3).map (fun i=>(i.zero,i.size,i.bytes))=some (some (I_ 0),1,8):=by kernel_rfl
theorem oP {ops:Array Oper} {rest:List Oper} {o:Oper} {a:Act} {Q:Exit->Act->W_->Prop} (hgd:o.guard=none) (s x:Operand)
  (ho:o.op=.call { callee:=.builtin .append,args:=#[s,x],argTypes:=#[31,31] }) (base:Nat) (v:V_) (u:List Nat) (q gx:Nat) (hs:a.eval s=v) (fH:w.ownsRow base 3 1 v u.length (bV u))
  (hx:a.eval x=s_ gx 1 1) (hb:dh w gx 3 [I_ q]) (kU:u.length<=1000000) (nX:base<=w.heap.size)
  (h:∀g cap w',w'.ownsRow base 3 1 (s_ g (u.length+1) cap) (u++[q]).length (bV (u++[q]))->w.grownBy w' v.ownBlock->(v.ownBlock=some g\/g=w.heap.size)->wpList Tryz.prog ops Q rest (a.put o.dst (s_ g (u.length+1) cap)) w'):wpList Tryz.prog ops Q (o::rest) a w:=by
 obtain⟨il,hil,hl0,hl1,hl2⟩:=ip_ uF;refine wpList_append_lies _ hgd s x 31 ho base 3 il _ 1 8 Tryz.underlying31 hil hl0 hl1 hl2 rfl (by decide) v u.length (bV u) hs fH (a_ gx 0) 1 1 [I_ q] hx rfl ?_ (fun z hz=>by simp at hz;rw [hz];rfl) (by decide) (by unfold maxLen;omega) (by omega) nX _ rfl ?_
 .intro j y hy;have:=bM hb hy;simpa [add_eq] using this
 .intro g cap w' h1 h2 h3 _;refine h g cap w' ?_ h2 h3;rw [la_,vF];exact h1
theorem EX {w':W_} {base e size n:Nat} {v:V_} {xs:List V_} {row:Option Nat} (h:w.ownsRow base e size v n xs) (hne:∀k,v.ownBlock=some k->some k≠row) (hg:w.grownBy w' row):w'.ownsRow base e size v n xs:=by
 refine⟨h.1,?_⟩;rcases h.2 with h0 | ⟨g',cap,cur,h1,h2,h3,h4⟩
 .exact .inl h0
 .refine .inr ⟨g',cap,cur,h1,h2,?_,h4⟩;rw [hg.block g' (Array.getElem?_eq_some_iff.1 h3).1 (hne g' (by rw [h1];rfl))];exact h3
structure Sq (B gq:Nat) (vk vf:V_) (q:gG) (W:W_):Prop where
 b:dh W gq 145 [vk,vf]
 k:W.ownsRow B 3 1 vk q.kinds.length (bV q.kinds)
 f:W.ownsRow B 3 1 vf q.firsts.length (bV q.firsts)
 ne:∀b,vk.ownBlock=some b->vf.ownBlock=some b->False
 lo:B<=gq
section
variable {B gq:Nat} {vk vf v2:V_} {q:gG} {W W' w2:W_}
theorem Sq.below (h:Sq B gq vk vf q W) (hb:B_ W W'):Sq B gq vk vf q W':=
 ⟨bN h.b hb (bO h.b),bU h.k hb di,bU h.f hb di,h.ne,h.lo⟩
theorem Sq.ajz (h:Sq B gq vk vf q W) {x g:Nat} (ho:w2.ownsRow B 3 1 (s_ g (q.firsts.length+1) cap) (q.firsts++[x]).length (bV (q.firsts++[x]))) (hg:W.grownBy w2 vf.ownBlock) (hat:vf.ownBlock=some g\/g=W.heap.size) :
  Sq B gq vk (s_ g (q.firsts.length+1) cap) ⟨q.kinds,q.firsts++[x]⟩ (w2.setCell (a_ gq 1) (s_ g (q.firsts.length+1) cap)):=by
 have b2:=dR h.f h.b (by decide) hg;have g2:=gs_ w2 gq 1 (s_ g (q.firsts.length+1) cap);have k2:w2.ownsRow B 3 1 vk q.kinds.length (bV q.kinds):=EX h.k (fun b e e'=>h.ne b e e'.symm) hg;refine⟨cO b2 1 _,dA k2 b2 (by decide) g2,dA ho b2 (by decide) g2,fun b e e'=>?_,h.lo⟩;have eb:g=b:=oi_ e';subst eb;rcases hat with hat | hat
 .exact h.ne g e hat
 .have:=(ol_ h.k g e).2;omega
theorem Sq.abr (h:Sq B gq vk vf q W) {x g:Nat} (ho:w2.ownsRow B 3 1 (s_ g (q.kinds.length+1) cap) (q.kinds++[x]).length (bV (q.kinds++[x]))) (hg:W.grownBy w2 vk.ownBlock) (hat:vk.ownBlock=some g\/g=W.heap.size) :
  Sq B gq (s_ g (q.kinds.length+1) cap) vf ⟨q.kinds++[x],q.firsts⟩ (w2.setCell (a_ gq 0) (s_ g (q.kinds.length+1) cap)):=by
 have b2:=dR h.k h.b (by decide) hg;have g2:=gs_ w2 gq 0 (s_ g (q.kinds.length+1) cap);have k2:w2.ownsRow B 3 1 vf q.firsts.length (bV q.firsts):=EX h.f (fun b e e'=>h.ne b e'.symm e) hg;refine⟨cO b2 0 _,dA ho b2 (by decide) g2,dA k2 b2 (by decide) g2,fun b e e'=>?_,h.lo⟩;have eb:g=b:=oi_ e;subst eb;rcases hat with hat | hat
 .exact h.ne g hat e'
 .have:=(ol_ h.f g e').2;omega
end
def Lb (q:gG) (w:W_) (e:Ending) (w':W_):Prop:=
 ∃v1 v2,e=.returned (.agg #[v1,v2])/\B_ w w'/\w'.ownsRow w.heap.size 3 1 v1 q.kinds.length (bV q.kinds)/\w'.ownsRow w.heap.size 3 1 v2 q.firsts.length (bV q.firsts)/\∀b,v1.ownBlock=some b->v2.ownBlock=some b->False
abbrev xZ (W:W_) (g:Nat) (a b:V_):W_:=(W.setCell (a_ g 0) a).setCell (a_ g 1) b
theorem Wo {g:Nat} {a b:V_} (h:dh W g 145 [a,b]):(loadVar 145 (a_ g 0)).run Tryz.prog W=.ok (.agg #[a,b]) W:=
 run_loadVar_mid W g 0 145 [a,b] _ (dZ h) Tryz.underlying145 rfl (by kernel_rfl)
theorem TW (W:W_) (g:Nat) (a b:V_):W.grownBy (xZ W g a b) (some g):=(gs_ W g 0 a).trans (gs_ _ g 1 b)
theorem Ob {gq r:Nat} {vk vf:V_} {q:gG} {x y:V_} (hb:B_ w W) (h:Sq w.heap.size gq vk vf q W) (hr:dh W r 145 [x,y]) (lr:w.heap.size<=r) :
  (loadVar 145 (a_ r 0)).run Tryz.prog (xZ W r vk vf)=.ok (.agg #[vk,vf]) (xZ W r vk vf)/\Lb q w (.returned (.agg #[vk,vf])) (xZ W r vk vf):=by
 have g2:=TW W r vk vf;exact⟨Wo (cO (cO hr 0 vk) 1 vf),vk,vf,rfl,hb.grown g2 hb.size (fun k e=>by cases e;exact lr),dA h.k hr (by decide) g2,dA h.f hr (by decide) g2,h.ne⟩
namespace Pu
theorem rH (ss:List aN) (rs:List Int) (kinds:List Nat) (n:Nat):fM ss rs kinds (n+1)=Eg ss rs kinds (fM ss rs kinds n) n:=by unfold fM;rw [List.range_succ,List.foldl_append];rfl
theorem uA (ss:List aN) (rs:List Int) (kinds:List Nat):∀n,(fM ss rs kinds n).kinds.length=n/\(fM ss rs kinds n).firsts.length<=n/\∀o∈(fM ss rs kinds n).firsts,o<n:=by
 intro n
 induction n with
 | zero=>exact⟨rfl,di,fun o ho=>by simp [fM] at ho⟩
 | succ n ih=>
  obtain⟨h1,h2,h3⟩:=ih;rw [rH];unfold Eg;refine⟨by simp [h1],?_,fun o ho=>?_⟩
  .show (if _ then _ else _:List Nat).length<=_;split
   .simp;exact h2
   .omega
  .have ho':o∈(if iA ss rs kinds n (fM ss rs kinds n).firsts=(fM ss rs kinds n).firsts.length then (fM ss rs kinds n).firsts++[n] else (fM ss rs kinds n).firsts):=ho;split at ho'
   .rcases ma_.1 ho' with k | k
    .have:=h3 o k;omega
    .simp at k;omega
   .have:=h3 o ho';omega
end Pu
theorem UO (B gm gs cap:Nat) (vr vk:V_) (ss:List aN) (rs:List Int) (kinds:List Nat) (w:W_) (hm:Md B gm gs cap vr ss rs w) (hk:ed w vk kinds) (hlt:∀z∈ss,∀n∈z.longer,n<kinds.length) (hl:ss.length<=1000) (hkl:kinds.length<=1000) :
  C_ 88 #[p_ gm,vk] w (Lb (fM ss rs kinds ss.length) w):=by
 have hb0:B_ w ((w.alloc (c_ #[n_,n_] 145)).alloc (c_ #[n_,n_] 145)):=(mi _).alloc (by simp) _;have HM:=bK hm;have HK:=bK hk;have IY:=bK hlt;have c0:=bP 0 (hm.below hb0).b rfl;have R0:Hid (dh ((w.alloc (c_ #[n_,n_] 145)).alloc (c_ #[n_,n_] 145)) w.heap.size 145 [n_,n_]):=dx (hn_ _ _) _;have Q0:Hid (Sq w.heap.size (w.heap.size+1) n_ n_ ⟨[],[]⟩ ((w.alloc (c_ #[n_,n_] 145)).alloc (c_ #[n_,n_] 145))):=by have h2:=hn_ (w.alloc (c_ #[n_,n_] 145)) (c_ #[n_,n_] 145);rw [wa_] at h2;exact⟨h2,fT _ _ _ _,fT _ _ _ _,fun b e=>(by cases e),by omega⟩
 have B0:=bK hb0;clear hm hk hlt hb0;go_enter Tryz.func88,Tryz.ntmps88
 go_wp2_with fail
 clear c0
 go_loopg [6,7,14] ss.length (fun gk _ _ iv wx=>∃(k:Nat) (v1 v2:V_),k<=ss.length/\gk=ss.length-k/\iv=I_ k/\B_ w wx/\dh wx w.heap.size 145 [n_,n_]/\Sq w.heap.size (w.heap.size+1) v1 v2 (fM ss rs kinds k) wx)
 case atStart=>exact⟨0,_,_,zl_ _,rfl,rfl,B0.o,R0.o,Q0.o⟩
 case round=>
  clear B0 R0 Q0;obtain⟨k,v1,v2,kl,rfl,rfl,hb,hr,hq⟩:=hrel;have WU:=bK (uA ss rs kinds k);generalize hF:fM ss rs kinds k=F at *;have HF:=bK hF;clear hF;obtain⟨a1,c1,rfl,_,_⟩:=dS hq.k;obtain⟨a2,c2,rfl,_,_⟩:=dS hq.f;by_cases hlt:k<ss.length
  .have d1:=nV k ss.length;have wi:=kg k;have f1:=bP 1 hq.b rfl;have fw:=bK (PN B gm gs cap k vr _ vk ss rs F.firsts kinds wr (HM.o.below hb) (dH hq.f (zl_ _)) (HK.o.below hb) hlt (fun o ho=>by have:=WU.o.2.2 o ho;omega) IY.o hl hkl (by have:=WU.o.2.1;omega));have HB:=bK hb;have HR:=bK hr;have HQ:=bK hq;clear hb hr hq
   go_wp2_with fail
   refine fw.o.mono ?_
   clear fw f1;rintro e w3 ⟨rfl,hq3⟩;have hb3:B_ wr w3:=xn hq3;have B3:=bK (HB.o.trans (hb3.mono HB.o.size));have R3:=bK (bN HR.o hb3 (bO HR.o));have Q3:=bK (HQ.o.below hb3);clear hq3 hb3 HB HR HQ;have NX:Hid (fM ss rs kinds (k+1)=⟨F.kinds++[iA ss rs kinds k F.firsts],if iA ss rs kinds k F.firsts=F.firsts.length then F.firsts++[k] else F.firsts⟩):=by show _=_;rw [rH,HF.o];rfl
   have KL:=AF ss rs kinds k F.firsts;generalize iA ss rs kinds k F.firsts=kd at *;by_cases ek:kd=F.firsts.length
   focus
    rw [if_pos ek] at NX;have g1:=bP 1 Q3.o.b rfl;subst ek;have abP:B_ w3 (w3.alloc (c_ #[I_ k] 3)):=mi _;have QA1:=bK (Q3.o.below abP);have RA1:=bK (bN R3.o abP (bO R3.o));have BA1:=bK (B3.o.trans (abP.mono B3.o.size));have f0:=bP 0 Q3.o.b rfl;have f1:=bP 1 Q3.o.b rfl;have f0a:=bP 0 QA1.o.b rfl;have f1a:=bP 1 QA1.o.b rfl;have LN1:F.firsts.length<=1000000:=by have:=WU.o.1;have:=WU.o.2.1;omega
    have SZ1:Hid (w.heap.size<=(w3.alloc (c_ #[I_ k] 3)).heap.size):=BA1.o.size;clear Q3 R3 B3 abP;go_upto_region 8 with (at_builtin;go_must (refine oP rfl (.tmp 29) (.tmp 31) rfl w.heap.size _ F.firsts k w3.heap.size rfl QA1.o.f rfl (hn_ _ _) LN1 SZ1.o ?_);intro g8 c8 w8 jd eO hat8;have AR:=dR QA1.o.f QA1.o.b (by decide) eO;have k8:=bM (j:=1) AR rfl;have z8:=bL AR 1);have Q8:=bK (Sq.ajz QA1.o jd eO hat8);have U4:=gs_ w8 (w.heap.size+1) 1 (s_ g8 (F.firsts.length+1) c8);have rr8:=dR QA1.o.f RA1.o (by decide) eO;have R8:=bK (bQ rr8 U4 (fun e=>by have:=oi_ e;omega));have b8:B_ w w8:=BA1.o.grown eO BA1.o.size (fun k' e=>(ol_ QA1.o.f k' e).1);have B8:=bK (b8.grown U4 b8.size (fun k' e=>by cases e;omega));clear AR k8 z8 jd eO hat8 U4 rr8 b8 QA1 RA1 BA1 SZ1 f0 f1 f0a f1a;generalize w8.setCell (a_ (w.heap.size+1) 1) (s_ g8 (F.firsts.length+1) c8)=w9 at *;have B3:=bK B8.o;have R3:=bK R8.o;have Q3:=bK Q8.o;clear B8 R8 Q8 g1;generalize w9=w3 at *;generalize g8=g7 at *;generalize c8=c7 at *;have abQ:B_ w3 (w3.alloc (c_ #[I_ F.firsts.length] 3)):=mi _;have QA2:=bK (Q3.o.below abQ);have RA2:=bK (bN R3.o abQ (bO R3.o));have BA2:=bK (B3.o.trans (abQ.mono B3.o.size));have f0:=bP 0 Q3.o.b rfl;have f1:=bP 1 Q3.o.b rfl;have f0a:=bP 0 QA2.o.b rfl;have f1a:=bP 1 QA2.o.b rfl;have LN2:F.kinds.length<=1000000:=by have:=WU.o.1;have:=WU.o.2.1;omega
    have SZ2:Hid (w.heap.size<=(w3.alloc (c_ #[I_ F.firsts.length] 3)).heap.size):=BA2.o.size;clear Q3 R3 B3 abQ;go_upto_region 9 with (at_builtin;go_must (refine oP rfl (.tmp 35) (.tmp 37) rfl w.heap.size _ F.kinds F.firsts.length w3.heap.size rfl QA2.o.k rfl (hn_ _ _) LN2 SZ2.o ?_);intro g8 c8 w8 jd eO hat8;have AR:=dR QA2.o.k QA2.o.b (by decide) eO;have k8:=bM (j:=0) AR rfl;have z8:=bL AR 0);have Q8:=bK (Sq.abr QA2.o jd eO hat8)
   rotate_left
   focus
    rw [if_neg ek] at NX;have g1:=bP 1 Q3.o.b rfl;have e1:((kd:Int) == (F.firsts.length:Int))=false:=by simp;omega
    have e2:¬(kd:Int)=F.firsts.length:=by omega
    have e3:decide ((kd:Int)=F.firsts.length)=false:=dn_ e2;have abR:B_ w3 (w3.alloc (c_ #[I_ kd] 3)):=mi _;have QA3:=bK (Q3.o.below abR);have RA3:=bK (bN R3.o abR (bO R3.o));have BA3:=bK (B3.o.trans (abR.mono B3.o.size));have f0:=bP 0 Q3.o.b rfl;have f1:=bP 1 Q3.o.b rfl;have f0a:=bP 0 QA3.o.b rfl;have f1a:=bP 1 QA3.o.b rfl;have LN3:F.kinds.length<=1000000:=by have:=WU.o.1;have:=WU.o.2.1;omega
    have SZ3:Hid (w.heap.size<=(w3.alloc (c_ #[I_ kd] 3)).heap.size):=BA3.o.size;clear Q3 R3 B3 abR;go_upto_region 9 with (at_builtin;go_must (refine oP rfl (.tmp 35) (.tmp 37) rfl w.heap.size _ F.kinds kd w3.heap.size rfl QA3.o.k rfl (hn_ _ _) LN3 SZ3.o ?_);intro g8 c8 w8 jd eO hat8;have AR:=dR QA3.o.k QA3.o.b (by decide) eO;have k8:=bM (j:=0) AR rfl;have z8:=bL AR 0);have Q8:=bK (Sq.abr QA3.o jd eO hat8)
   rotate_left
   all_goals
    have U4:=gs_ w8 (w.heap.size+1) 0 (s_ g8 (F.kinds.length+1) c8)
   focus have rr8:=dR QA2.o.k RA2.o (by decide) eO
   rotate_left
   focus have rr8:=dR QA3.o.k RA3.o (by decide) eO
   rotate_left
   all_goals
    have R8:=bK (bQ rr8 U4 (fun e=>by have:=oi_ e;omega))
   focus
    have b8:B_ w w8:=BA2.o.grown eO BA2.o.size (fun k' e=>(ol_ QA2.o.k k' e).1);have B8:=bK (b8.grown U4 b8.size (fun k' e=>by cases e;omega));clear AR k8 z8 jd eO hat8 U4 rr8 b8 QA2 RA2 BA2 SZ2 f0 f1 f0a f1a
   rotate_left
   focus
    have b8:B_ w w8:=BA3.o.grown eO BA3.o.size (fun k' e=>(ol_ QA3.o.k k' e).1);have B8:=bK (b8.grown U4 b8.size (fun k' e=>by cases e;omega));clear AR k8 z8 jd eO hat8 U4 rr8 b8 QA3 RA3 BA3 SZ3 f0 f1 f0a f1a
   all_goals
    generalize w8.setCell (a_ (w.heap.size+1) 0) (s_ g8 (F.kinds.length+1) c8)=w9 at *;go_wp2;go_roundg (ss.length-(k+1))
    case measure=>omega
    case rel=>exact⟨k+1,_,_,by omega,rfl,by go_num,B8.o,R8.o,by rw [NX.o];exact Q8.o⟩
  .have d1:=mM k ss.length;have e:k=ss.length:=by omega
   have FIN:=bK (Ob hb hq hr di);have RES:Hid (fM ss rs kinds ss.length=F):=by rw [<-e];exact HF.o
   have vW:Hid (Lb (fM ss rs kinds ss.length) w (.returned (.agg #[.slice a1 F.kinds.length c1,.slice a2 F.firsts.length c2])) (xZ wr w.heap.size (.slice a1 F.kinds.length c1) (.slice a2 F.firsts.length c2))):=by rw [RES.o];exact FIN.o.2
   have f0:=bP 0 hq.b rfl;have f1:=bP 1 hq.b rfl;have z0:=bP 0 hr rfl;have z1:=bP 1 hr rfl;have y0:=bL hr 0;have y1:=bL hr 1;clear hb hq hr e;go_wp2;exact br_ (by simp [results,Tryz.results88,asAddr,FIN.o.1]) rfl vW.o
theorem Zv (n:Nat):madeCells (I_ 0).cells (n*1)=(List.replicate n (I_ 0)).toArray:=by unfold madeCells;refine Array.ext (by simp) (fun i h1 h2=>?_);simp [Value.cells,Nat.mod_one]
theorem MZ (n:Nat) (hn:n<=100000) (w:W_):(Instr.makeSlice 31 (I_ n) (I_ n)).run Tryz.prog w=.ok (s_ w.heap.size n n) (w.alloc (c_ (Array.replicate n (I_ 0)) 3)):=by obtain⟨i,h1,h2,h3,h4⟩:=ip_ uF;have:=run_make (P:=Tryz.prog) w 31 3 i (I_ 0) Tryz.underlying31 h1 h2 .i64 .i64 (n:Int) (n:Int) (by omega) (Int.le_refl _) (by rw [h4];omega) (by omega);rw [this,h3,tn_,Zv];rfl
theorem Qg (W:W_) (n:Nat) (hn:n<=100000):ed (W.alloc (c_ (Array.replicate n (I_ 0)) 3)) (s_ W.heap.size n n) (List.replicate n 0):=by unfold ed;rw [lp_];refine⟨by simp [bV],.inr ⟨W.heap.size,n,Array.replicate n (I_ 0),rfl,zl_ _,hn_ W _,di,by unfold maxLen;omega,by simp,?_⟩⟩;simp [bV]
structure Sr (w:W_) (r gq:Nat) (q:gG) (vk vf:V_) (W:W_):Prop where
 be:B_ w W
 aY:dh W r 145 [n_,n_]
 b:dh W gq 145 [vk,vf]
 k:ed W vk q.kinds
 f:∃a c,vf=.slice a q.firsts.length c
 lo:w.heap.size<=gq
theorem Sr.below {w:W_} {r gq:Nat} {q:gG} {vk vf:V_} {W W':W_} (h:Sr w r gq q vk vf W) (hb:B_ W W'):Sr w r gq q vk vf W':=
 ⟨h.be.trans (hb.mono h.be.size),bN h.aY hb (bO h.aY),bN h.b hb (bO h.b),h.k.below hb,h.f,h.lo⟩
theorem aag (B gm gs cap:Nat) (vr:V_) (ss:List aN) (rs:List Int) (w:W_) (hm:Md B gm gs cap vr ss rs w) (hlt:∀z∈ss,∀n∈z.longer,n<ss.length) (hl:ss.length<=1000) :
  C_ 56 #[p_ gm] w (Lb (nN ss rs) w):=by
 have hmk:=MZ ss.length (by omega);have b1:B_ w (w.alloc (c_ #[n_,n_] 145)):=mi _;have HM:=bK hm;have IY:=bK hlt;have c0:=bP 0 (hm.below b1).b rfl;have S0:Hid (Sr w w.heap.size (w.heap.size+1+1) ⟨List.replicate ss.length 0,[]⟩ (s_ (w.heap.size+1) ss.length ss.length) n_ (((w.alloc (c_ #[n_,n_] 145)).alloc (c_ (Array.replicate ss.length (I_ 0)) 3)).alloc (c_ #[s_ (w.heap.size+1) ss.length ss.length,n_] 145))):=by have n1:=Qg (w.alloc (c_ #[n_,n_] 145)) ss.length (by omega);rw [wa_] at n1;have h3:=hn_ ((w.alloc (c_ #[n_,n_] 145)).alloc (c_ (Array.replicate ss.length (I_ 0)) 3)) (c_ #[s_ (w.heap.size+1) ss.length ss.length,n_] 145);rw [wa_,wa_] at h3;refine⟨(b1.alloc (by simp) _).alloc (by simp;omega) _,dx (dx (hn_ _ _) _) _,h3,?_,⟨_,_,rfl⟩,by omega⟩;exact n1.below (mi _)
 clear hm hlt b1;go_enter Tryz.func56,Tryz.ntmps56
 go_wp2_with fail
 clear c0 hmk
 go_loopg [4] (ss.length+1) (fun gk _ wx=>∃(q:gG) (vk vf:V_) (f:Nat),gk=ss.length+1-q.firsts.length/\q.firsts.length<=ss.length/\q.kinds.length=ss.length/\ss.length+1-q.firsts.length<=f/\ny ss rs f q=nN ss rs/\Sr w w.heap.size (w.heap.size+1+1) q vk vf wx)
 case atStart=>exact⟨⟨List.replicate ss.length 0,[]⟩,_,_,ss.length+1,rfl,zl_ _,by simp,di,rfl,S0.o⟩
 case round=>
  clear S0;obtain⟨q,vk,vf,f,rfl,ql,qk,fl,hg,hS⟩:=hrel;obtain⟨aq,cq,rfl⟩:=hS.f;obtain⟨f',rfl⟩:∃f',f=f'+1:=⟨f-1,by omega⟩;have f0:=bP 0 hS.b rfl;have fw:=bK (UO B gm gs cap vr vk ss rs q.kinds wr (HM.o.below hS.be) hS.k (fun z hz n hn=>by rw [qk];exact IY.o z hz n hn) hl (by omega));have HS:=bK hS;have HG:=bK hg;have QK:=bK qk;have QL:=bK ql;have FL:=bK fl;obtain⟨ak,ck,rfl,_,_,_⟩:=hS.k.form;clear hS hg qk ql fl
  go_wp2_with fail
  refine fw.o.mono ?_
  clear fw f0;rintro e w3 ⟨v1,v2,rfl,hb3,o1,o2,ne⟩;have WU:=bK (uA ss rs q.kinds ss.length);have pE:Hid ((if (fM ss rs q.kinds ss.length).firsts.length<=q.firsts.length then fM ss rs q.kinds ss.length else ny ss rs f' (fM ss rs q.kinds ss.length))=nN ss rs):=HG.o;clear HG;generalize fM ss rs q.kinds ss.length=F at *;obtain⟨a1,c1,rfl,_,_⟩:=dS o1;obtain⟨a2,c2,rfl,_,_⟩:=dS o2;have qm:B_ w3 (w3.alloc (c_ #[.slice a1 F.kinds.length c1,.slice a2 F.firsts.length c2] 145)):=mi _;have B4:Hid (dh (w3.alloc (c_ #[.slice a1 F.kinds.length c1,.slice a2 F.firsts.length c2] 145)) w3.heap.size 145 [.slice a1 F.kinds.length c1,.slice a2 F.firsts.length c2]):=hn_ _ _;have S4:=bK ((HS.o.below hb3).below qm);have WL:w.heap.size<=wr.heap.size:=HS.o.be.size;have O1:=bK (dH (bU o1 qm di) WL);have O2:=bK (dH (bU o2 qm di) WL);have NE:=bK ne;have GL:Hid (w.heap.size<=w3.heap.size):=lt_ WL hb3.size;have G3:Hid (w.heap.size+1+1≠w3.heap.size/\w.heap.size≠w3.heap.size):=by have h1:=bO (HS.o.below hb3).b;exact⟨by omega,by omega⟩
  clear HS hb3 o1 o2 ne qm;go_upto_region 3 with (fail);generalize w3.alloc (c_ #[.slice a1 F.kinds.length c1,.slice a2 F.firsts.length c2] 145)=W4 at *;generalize w3.heap.size=g4 at *;have x0:=bP 0 B4.o rfl;have x1:=bP 1 B4.o rfl;have y1:=bP 1 S4.o.b rfl;have y0:=bP 0 S4.o.b rfl;have z0:=bP 0 S4.o.aY rfl;have z1:=bP 1 S4.o.aY rfl;have u0:=bL S4.o.aY 0;have u1:=bL S4.o.aY 1;have t0:=bL S4.o.b 0;have t1:=bL S4.o.b 1;by_cases h:F.firsts.length<=q.firsts.length
  .have d1:decide ((F.firsts.length:Int)<=q.firsts.length)=true:=dt_ (by omega);have SQ:Sq w.heap.size g4 (.slice a1 F.kinds.length c1) (.slice a2 F.firsts.length c2) F W4:=⟨B4.o,O1.o,O2.o,NE.o,GL.o⟩;have FIN:=bK (Ob S4.o.be SQ S4.o.aY di);have vW:Hid (Lb (nN ss rs) w (.returned (.agg #[.slice a1 F.kinds.length c1,.slice a2 F.firsts.length c2])) (xZ W4 w.heap.size (.slice a1 F.kinds.length c1) (.slice a2 F.firsts.length c2))):=by rw [<-pE.o,if_pos h];exact FIN.o.2
   clear SQ S4 B4 O1 O2 NE pE;go_wp2;exact br_ (by simp [results,Tryz.results56,asAddr,FIN.o.1]) rfl vW.o
  .have d1:decide ((F.firsts.length:Int)<=q.firsts.length)=false:=dn_ (by omega);have g2:=TW W4 (w.heap.size+1+1) (.slice a1 F.kinds.length c1) (.slice a2 F.firsts.length c2)
   have S5:Hid (Sr w w.heap.size (w.heap.size+1+1) F (.slice a1 F.kinds.length c1) (.slice a2 F.firsts.length c2) (xZ W4 (w.heap.size+1+1) (.slice a1 F.kinds.length c1) (.slice a2 F.firsts.length c2))):=
    ⟨S4.o.be.grown g2 S4.o.be.size (fun k e=>by cases e;omega),bQ S4.o.aY g2 (fun e=>by have:=oi_ e;omega),cO (cO S4.o.b 0 _) 1 _,dA (dH O1.o (zl_ _)) S4.o.b (by decide) g2,⟨_,_,rfl⟩,by omega⟩
   have NX:Hid (ny ss rs f' F=nN ss rs):=by have:=pE.o;rw [if_neg h] at this;exact this
   clear S4 B4 O1 O2 NE pE g2;go_wp2;go_roundg (ss.length+1-F.firsts.length)
   case measure=>(have:=QL.o;have:=WU.o.2.1;omega)
   case rel=>exact⟨F,_,_,f',rfl,WU.o.2.1,WU.o.1,by have:=FL.o;have:=QL.o;omega,NX.o,S5.o⟩
end Go.Proofs.YtmccnmgaoppogaaGreat
