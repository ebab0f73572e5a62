import Derived.Test.YtmccnmgaoppogaaGreatKbh
namespace Go.Proofs.YtmccnmgaoppogaaGreat
open Pu
set_option linter.all false
set_option maxRecDepth 100000
set_option maxHeartbeats 8000000
open Go.RowKit
variable {B g j n:Nat} {v:V_} {xs:List V_} {K:List aA} {W w:W_} {KK:List (List aA)} {ops:Array Oper} {rest:List Oper}
section
variable {B gw:Nat} {vc:V_} {code:List dY} {ob Qo:Option Nat} {w w' W:W_}
theorem Lk.yV (h:Lk gw vc.ownBlock Qo w w') (hw:Wc B gw vc code w) {B' t size:Nat} (hn:w.ownsRow B' t size v n xs) (h1:t≠150) (h2:t≠61):w'.ownsRow B' t size v n xs:=by
 refine h.rows hn (fun k e=>?_);rcases hn.2 with ⟨e0,_⟩ | ⟨g,cap,cur,e0,_,h5,_⟩
 .rw [e0] at e;cases e
 .rw [e0] at e;cases e
  refine⟨?_,fun e2=>?_⟩
  .rintro rfl;have:=hw.b;unfold dh at this;rw [this] at h5;cases h5;exact h1 rfl
  .rcases hw.own.2 with ⟨e3,_⟩ | ⟨g',_,_,e3,_,h6,_⟩
   .rw [e3] at e2;cases e2
   .rw [e3] at e2;cases e2
    rw [h5] at h6;cases h6;exact h2 rfl
theorem Lk.ajP (h:Lk gw vc.ownBlock Qo w w') (hw:Wc B gw vc code w) {t:Nat} (hb:dh w g t xs) (h1:t≠150) (h2:t≠61):dh w' g t xs:=h.fA hb (dD hb hw.b h1) (hw.ne hb h2)
theorem Lk.kdm (h:Lk gw vc.ownBlock Qo w w') (hw:Wc B gw vc code w) {B':Nat} (hk:Kk B' w v K):Kk B' w' v K:=⟨h.yV hw hk.own (by decide) (by decide),hk.len⟩
theorem Lk.grown (h:Lk gw ob Qo w W) (hg:W.grownBy w' (some g)) (hle:w.heap.size<=g):Lk gw ob Qo w w':=by refine⟨hg.os.trans h.os,hg.tape.trans h.tape,hg.output.trans h.output,lt_ h.size hg.size,fun k hk h1 h2=>?_,h.row⟩;rw [hg.block k (Nat.lt_of_lt_of_le hk h.size) (fun e=>by have:=oi_ e;omega)];exact h.block k hk h1 h2
theorem Wc.apart {t:Nat} (h:Wc B gw vc code W) (hb:dh W g t xs) (h1:t≠150) (h2:t≠61) (hg:W.grownBy w' (some g)):Wc B gw vc code w':=
 ⟨bQ h.b hg (fun e=>dD hb h.b h1 (oi_ e).symm),dA h.own hb h2 hg,h.lo⟩
end
namespace Pu
def jY (code:List dY) (all:List aA) (j:Nat):List dY × List Nat:=((all.drop 1).take (j-1)).foldl Im (code,[0])
theorem PW (code:List dY) (all:List aA):jY code all 1=(code,[0]):=rfl
theorem MB (code:List dY) (all:List aA) {k:aA} (hj:1<=j) (hk:all[j]?=some k):jY code all (j+1)=((jY code all j).1++dL k,(jY code all j).2++[(jY code all j).1.length]):=by
 unfold jY
 obtain⟨i,rfl⟩:∃i,j=i+1:=⟨j-1,by omega⟩
 rw [Nat.add_sub_cancel,Nat.add_sub_cancel,List.take_add_one,List.getElem?_drop,Nat.add_comm 1 i,hk,List.foldl_append];rfl
theorem PV (code:List dY) (all:List aA) (hj:1<=j) (hl:j<=all.length):(jY code all j).2.length=j/\code.length+(j-1)<=(jY code all j).1.length/\(jY code all j).1.length<=code.length+259*j:=by
 unfold jY;rw [xP];have h2:=wQ ((all.drop 1).take (j-1));have h3:((all.drop 1).take (j-1)).length=j-1:=by rw [List.length_take,List.length_drop];omega
 simp only [la_,zW,h3,lc_,ln_];rw [h3] at h2;omega
theorem PR (code:List dY) (all:List aA) (h:¬all.length<=1):(jY code all all.length).1.take code.length++((jY code all all.length).1.drop code.length).map (kT (jY code all all.length).2)=nz code all:=by
 have e:jY code all all.length=(all.drop 1).foldl Im (code,[0]):=by unfold jY;rw [List.take_of_length_le (by rw [List.length_drop];omega)]
 unfold nz;rw [if_neg h,e,xP];simp
theorem PT (code:List dY) (all:List aA) (hlt:∀k∈all,∀b,k.longer.getD b 0<all.length) (i:Nat) (x:dY) (hi:code.length<=i) (hx:(jY code all all.length).1[i]?=some x) (ho:x.op=3):∃t:Nat,x.bG=(t:Int)/\t<all.length:=by
 unfold jY at hx;rw [xP,ar_ hi] at hx;obtain⟨k,hk,hx⟩:=List.mem_flatMap.1 (mg_ hx);have hk:k∈all:=List.mem_of_mem_drop (List.mem_of_mem_take hk);obtain⟨i',hi'⟩:=gf_ hx;rcases Es k i' x hi' with ⟨e,_⟩ | e | e | ⟨⟨a,b,_,_,e,_⟩,_⟩
 .subst e;cases ho
 .subst e;cases ho
 .subst e;cases ho
 .subst e;exact⟨k.longer.getD a 0,rfl,hlt k hk a⟩
theorem QP (a:List Nat) (n x:Nat) (h:a.length<n):(a++List.replicate (n-a.length) 0).set a.length x=(a++[x])++List.replicate (n-(a++[x]).length) 0:=by
 obtain⟨m,hm⟩:∃m,n-a.length=m+1:=⟨n-a.length-1,by omega⟩
 rw [hm,List.replicate_succ,List.set_append_right _ _ di,Nat.sub_self,sz_,la_,show n-(a.length+[x].length)=m by simp;omega];simp
end Pu
theorem ZA {l:List Nat} (h:dh W g 3 (bV l)) (hl:l.length<=100000):ed W (s_ g l.length l.length) l:=by unfold ed;refine⟨by simp [bV],.inr ⟨g,l.length,(bV l).toArray,rfl,zl_ _,h,di,by unfold maxLen;omega,by simp [gX],?_⟩⟩;rw [Nat.mul_one,List.take_of_length_le (by rw [gX];exact di)]
structure Ms (B Bk gw gs:Nat) (w:W_) (ob:Option Nat) (vk:V_) (all:List aA) (vc:V_) (q:List dY × List Nat) (W:W_):Prop where
 wc:Wc B gw vc q.1 W
 lk:Lk gw ob vc.ownBlock w W
 k:Kk Bk W vk all
 st:dh W gs 3 (bV (q.2++List.replicate (all.length-q.2.length) 0))
section
variable {B Bk gw gs:Nat} {w:W_} {ob:Option Nat} {vk:V_} {all:List aA} {vc vc':V_} {q:List dY × List Nat} {W W':W_}
theorem Ms.mark (h:Ms B Bk gw gs w ob vk all vc q W) (hj:q.2.length=j) (hq:j<all.length) (hs:w.heap.size<=gs):Wc B gw vc q.1 (W.setCell (a_ gs j) (I_ (q.1.length:Int)))/\Lk gw ob vc.ownBlock w (W.setCell (a_ gs j) (I_ (q.1.length:Int)))/\Kk Bk (W.setCell (a_ gs j) (I_ (q.1.length:Int))) vk all/\dh (W.setCell (a_ gs j) (I_ (q.1.length:Int))) gs 3 (bV ((q.2++[q.1.length])++List.replicate (all.length-(q.2++[q.1.length]).length) 0)):=by
 subst hj;have hg:=gs_ W gs q.2.length (I_ (q.1.length:Int));refine⟨h.wc.apart h.st (by decide) (by decide) hg,h.lk.grown hg hs,⟨dA h.k.own h.st (by decide) hg,h.k.len⟩,?_⟩;have:=cO h.st q.2.length (I_ (q.1.length:Int));rw [<-QP _ _ _ hq];have e:bV ((q.2++List.replicate (all.length-q.2.length) 0).set q.2.length q.1.length)=(bV (q.2++List.replicate (all.length-q.2.length) 0)).set q.2.length (I_ (q.1.length:Int)):=by unfold bV;rw [List.map_set]
 rw [e];exact this
end
theorem Uv (B Bk gw:Nat) (vc vk:V_) (code:List dY) (all:List aA) (w:W_) (h:Wc B gw vc code w) (hk:Kk Bk w vk all) (hl:code.length<=500000) (hn:all.length<=1000) (hlt:∀k∈all,∀b,k.longer.getD b 0<all.length) :
  C_ 57 #[p_ gw,vk] w (fun e w'=>e=.returned (.tuple #[])/\vB B gw vc (nz code all) w w'):=by
 obtain⟨ac,cc,rfl,_,_⟩:=dS h.own;obtain⟨ak,ck,rfl,_,_⟩:=dS hk.own;have c0:=bP 0 h.b rfl;have H0:=bK h;have HK:=bK hk;have IY:=bK hlt;clear h hk hlt;go_enter Tryz.func57,Tryz.ntmps57;by_cases hz:all.length<=1
 .have d1:decide ((all.length:Int)<=1)=true:=dt_ (by omega);have FC:Hid (nz code all=code++[⟨5,0,0,0⟩]):=by show _=_;unfold nz;rw [if_pos hz]
  go_wp2_with fail
  refine (qz B gw _ code ⟨5,0,0,0⟩ w H0.o (by omega)).mono ?_
  rintro e w2 ⟨rfl,vY,lk,wc⟩;have FIN:Hid (vB B gw (.slice ac code.length cc) (nz code all) w w2):=⟨vY,lk,by rw [FC.o];exact wc⟩;clear lk wc;go_wp2;exact br_ (results_none (by rfl) _ _ _) rfl ⟨rfl,FIN.o⟩
 .have d1:decide ((all.length:Int)<=1)=false:=dn_ (by omega);have hmk:=MZ all.length (by omega);have hb1:B_ w (w.alloc (c_ (Array.replicate all.length (I_ 0)) 3)):=mi _
  have M0:Hid (Ms B Bk gw w.heap.size w (Value.slice ac code.length cc).ownBlock (.slice ak all.length ck) all (.slice ac code.length cc) (jY code all 1) (w.alloc (c_ (Array.replicate all.length (I_ 0)) 3))):=by
   refine⟨H0.o.below hb1,.below hb1,HK.o.below hb1,?_⟩;rw [PW];have:=hn_ w (c_ (Array.replicate all.length (I_ 0)) 3);have e:(bV ([0]++List.replicate (all.length - [0].length) 0)).toArray=Array.replicate all.length (I_ 0):=by obtain⟨m,hm⟩:∃m,all.length=m+1:=⟨all.length-1,by omega⟩;rw [hm];simp [bV,<-List.replicate_succ]
   unfold dh;rw [e];exact this
  clear hb1
  go_wp2_with fail
  clear hmk c0;generalize w.alloc (c_ (Array.replicate all.length (I_ 0)) 3)=W1 at *
  go_loopg [6] (all.length-1) (fun gm nv wx=>∃(j:Nat) (vX:V_),1<=j/\j<=all.length/\gm=all.length-j/\nv=I_ j/\Ms B Bk gw w.heap.size w (Value.slice ac code.length cc).ownBlock (.slice ak all.length ck) all vX (jY code all j) wx)
  case atStart=>exact⟨1,_,di,by omega,rfl,rfl,M0.o⟩
  case round=>
   clear M0;obtain⟨j,vX,j1,jl,rfl,rfl,hM⟩:=hrel;have LL:=bK (PV code all j1 jl);by_cases hj:j<all.length
   .have d2:=nV j all.length;have wi:=kg j;have ij0:=jg j;have ij1:(j:Int)<all.length:=by omega
    obtain⟨k,hk⟩:=qG all j hj;have NX:=bK (MB code all j1 hk);generalize jY code all j=q at *;obtain⟨aX,cX,rfl,_,_⟩:=dS hM.wc.own;have c0:=bP 0 hM.wc.b rfl;obtain⟨z,hz'⟩:∃z,(bV (q.2++List.replicate (all.length-q.2.length) 0))[j]?=some z:=⟨_,gg_ (by have:=LL.o.1;rw [gX,la_,lp_];omega)⟩;have s1:=bM hM.st hz';have s2:=bL hM.st j;obtain⟨wc2,lk2,k2,st2⟩:=hM.mark LL.o.1 hj di;have WC2:=bK wc2;have LK2:=bK lk2;have K2:=bK k2;have ST2:=bK st2;obtain⟨gk,ck',ek,_,_⟩:=dJ k2.own (by omega);cases ek;have Xm:=bK (k2.get hk).2;have kl:k.longer.length=256:=k2.len k (mg_ hk);clear hM wc2 lk2 k2 st2 hz' hk;go_upto_region 8 with (fail);clear s1 s2 c0;generalize wr.setCell (a_ w.heap.size j) (I_ (q.1.length:Int))=W2 at *;have sl:(vP k).length=257:=oN kl
    go_wp2_with (refine wl_ rfl 148 (.tmp 38) rfl gk (j*257) rfl _ _ Xm.o Tryz.underlying148 rfl (by rw [sl];exact Jv) ?_)
    refine (Zf B gw _ q.1 k W2 WC2.o (by have:=LL.o;omega) kl).mono ?_
    rintro e w3 ⟨rfl,vY,lk,wc⟩
    have M3:Hid (Ms B Bk gw w.heap.size w (Value.slice ac code.length cc).ownBlock (s_ gk all.length ck) all vY (jY code all (j+1)) w3):=by
     refine⟨?_,LK2.o.trans lk,lk.kdm WC2.o K2.o,?_⟩
     .rw [NX.o];exact wc
     .rw [NX.o];exact lk.ajP WC2.o ST2.o (by decide) (by decide)
    clear lk wc WC2 LK2 K2 ST2 Xm NX LL;go_wp2;go_roundg (all.length-(j+1))
    case measure=>omega
    case rel=>exact⟨j+1,vY,by omega,by omega,rfl,by go_num,M3.o⟩
   .have d2:=mM j all.length;have ej:j=all.length:=by omega
    have FC:=bK (PR code all hz);have IN:=bK (PT code all IY.o);rw [ej] at hM LL;generalize jY code all all.length=q at *;have NS:Hid (ed wr (s_ w.heap.size all.length all.length) q.2):=by have h1:=hM.st;rw [LL.o.1,Nat.sub_self,List.replicate_zero,List.append_nil] at h1;have:=ZA h1 (by have:=LL.o.1;omega);rw [LL.o.1] at this;exact this
    have HM:=bK hM;clear hM
    go_wp2_with fail
    refine (Zp B gw code.length vX (s_ w.heap.size all.length all.length) q.1 q.2 wr HM.o.wc NS.o (by have:=LL.o;omega) (by have:=LL.o;omega) (by have:=LL.o;omega) (by have:=LL.o;omega) (fun i x h1 h2 h3=>by rw [LL.o.1];exact IN.o i x h1 h2 h3)).mono ?_
    rintro e w3 ⟨rfl,vY,lk,wc⟩;have FIN:Hid (vB B gw (.slice ac code.length cc) (nz code all) w w3):=⟨vY,HM.o.lk.trans lk,by rw [<-FC.o];exact wc⟩;clear lk wc HM;go_wp2
    go_end0
    exact⟨rfl,FIN.o⟩
def Ue (B:Nat) (W:W_) (v:V_) (KK:List (List aA)):Prop:=∃vs:List V_,W.ownsRow B 88 1 v vs.length vs/\vs.length=KK.length/\∀(j:Nat) (u:V_) (K:List aA),vs[j]?=some u->KK[j]?=some K->Kk B W u K/\∃a n c,u=.slice a n c
theorem Ue.below {B:Nat} {W W':W_} {v:V_} {KK:List (List aA)} (h:Ue B W v KK) (hb:B_ W W'):Ue B W' v KK:=by obtain⟨vs,h1,h2,h3⟩:=h;exact⟨vs,bU h1 hb di,h2,fun j u K a b=>⟨(h3 j u K a b).1.below hb,(h3 j u K a b).2⟩⟩
theorem Ue.form (h:Ue B W v KK):∃a c,v=.slice a KK.length c:=by obtain⟨vs,h1,h2,_⟩:=h;obtain⟨a,c,e,_,_⟩:=dS h1;exact⟨a,c,by rw [e,h2]⟩
theorem Ue.get {a:Option Addr} {c:Nat} (h:Ue B W (.slice a n c) KK) (hj:KK[j]?=some K):∃g ua un uc,a=some (a_ g 0)/\W.cell? (a_ g j)=some (.slice ua un uc)/\Kk B W (.slice ua un uc) K:=by
 obtain⟨vs,h1,h2,h3⟩:=h;have hl:=(ge_.1 hj).1;obtain⟨g,cap,e,_,_⟩:=dJ h1 (by omega);cases e
 have hu:vs[j]?=some (vs[j]'(by omega)):=gg_ (by omega);obtain⟨k1,ua,un,uc,k2⟩:=h3 j _ K hu hj;rw [k2] at hu k1;exact⟨g,ua,un,uc,rfl,bT h1 hu,k1⟩
theorem yQ {o:Oper} {a:Act} {Q:Exit->Act->W_->Prop} (hgd:o.guard=none) (s x:Operand)
  (ho:o.op=.call { callee:=.builtin .append,args:=#[s,x],argTypes:=#[31,31] }) (base:Nat) (v:V_) (u:List Int) (q:Int) (gx:Nat) (hs:a.eval s=v) (fH:w.ownsRow base 3 1 v u.length (bY u))
  (hx:a.eval x=s_ gx 1 1) (hb:dh w gx 3 [I_ q]) (kU:u.length<=1000000) (nX:base<=w.heap.size)
  (h:∀g cap w',w'.ownsRow base 3 1 (s_ g (u.length+1) cap) (u++[q]).length (bY (u++[q]))->w.grownBy w' v.ownBlock->wpList Tryz.prog ops Q rest (a.put o.dst (s_ g (u.length+1) cap)) w'):wpList Tryz.prog ops Q (o::rest) a w:=by
 obtain⟨il,hil,hl0,hl1,hl2⟩:=ip_ uF;refine wpList_append_lies _ hgd s x 31 ho base 3 il _ 1 8 Tryz.underlying31 hil hl0 hl1 hl2 rfl (by decide) v u.length (bY u) hs fH (a_ gx 0) 1 1 [I_ q] hx rfl ?_ (fun z hz=>by simp at hz;rw [hz];rfl) (by decide) (by unfold maxLen;omega) (by omega) nX _ rfl ?_
 .intro j y hy;have:=bM hb hy;simpa [add_eq] using this
 .intro g cap w' h1 h2 _ _;refine h g cap w' ?_ h2;rw [la_];have e:bY (u++[q])=bY u++[I_ q]:=by simp [bY]
  rw [e];exact h1
namespace Pu
def akm (q:List Int × List dY) (m:List aA):List Int × List dY:=(q.1++[(q.2.length:Int)],nz q.2 m)
def sV (modes:List (List aA)) (i:Nat):List Int × List dY:=(modes.take i).foldl akm ([],[])
theorem Eu {modes:List (List aA)} {i:Nat} (h:modes[i]?=some K):sV modes (i+1)=((sV modes i).1++[((sV modes i).2.length:Int)],nz (sV modes i).2 K):=by unfold sV;rw [List.take_add_one,h,List.foldl_append];rfl
theorem Vm (modes:List (List aA)):sV modes modes.length=tN modes:=by unfold sV tN;rw [List.take_length];rfl
theorem Vn (modes:List (List aA)) (h:∀m∈modes,m.length<=42):∀i,i<=modes.length->(sV modes i).1.length=i/\(sV modes i).2.length<=10619*i:=by
 intro i
 induction i with
 | zero=>intro _;exact⟨rfl,di⟩
 | succ i ih=>intro hi;have ih:=ih (by omega);have hk:modes[i]?=some (modes[i]'(by omega)):=gg_ (by omega);rw [Eu hk,Ev];have:=A9 (sV modes i).2.length _ (h _ (List.getElem_mem (by omega:i<modes.length)));refine⟨by rw [la_,ih.1];rfl,?_⟩;rw [la_];omega
end Pu
structure Ly (w:W_) (ve vc:V_) (q:List Int × List dY) (W:W_):Prop where
 be:B_ w W
 wc:Wc w.heap.size w.heap.size vc q.2 W
 e:W.ownsRow w.heap.size 3 1 ve q.1.length (bY q.1)
section
variable {w W W':W_} {ve vc vc':V_} {q:List Int × List dY}
theorem Ly.below (h:Ly w ve vc q W) (hb:B_ W W'):Ly w ve vc q W':=⟨iT h.be hb,h.wc.below hb,bU h.e hb di⟩
theorem Ly.ent (h:Ly w ve vc q W) {x:Int} {v2:V_} (ho:W'.ownsRow w.heap.size 3 1 v2 (q.1++[x]).length (bY (q.1++[x]))) (hg:W.grownBy W' ve.ownBlock):Ly w v2 vc (q.1++[x],q.2) W':=
 ⟨h.be.grown hg h.be.size (fun k e=>(ol_ h.e k e).1),⟨dR h.e h.wc.b (by decide) hg,fI h.wc.own h.e (by decide) hg,h.wc.lo⟩,ho⟩
theorem Lk.be {Qo:Option Nat} (hl:Lk w.heap.size vc.ownBlock Qo W W') (h:B_ w W) (hw:Wc w.heap.size w.heap.size vc q.2 W):B_ w W':=by refine⟨hl.os.trans h.os,hl.tape.trans h.tape,hl.output.trans h.output,lt_ h.size hl.size,fun k hk=>?_⟩;rw [hl.block k (Nat.lt_of_lt_of_le hk h.size) (by omega) (fun e=>by have:=(ol_ hw.own k e.symm).1;omega)];exact h.block k hk
theorem Ly.on (h:Ly w ve vc q W) (hl:Lk w.heap.size vc.ownBlock vc'.ownBlock W W') {code:List dY} (hw:Wc w.heap.size w.heap.size vc' code W'):Ly w ve vc' (q.1,code) W':=
 ⟨hl.be h.be h.wc,hw,hl.yV h.wc h.e (by decide) (by decide)⟩
end
def XF (q:List Int × List dY) (w:W_) (e:Ending) (w':W_):Prop:=∃ve vc,e=.returned (.tuple #[ve,vc])/\B_ w w'/\w'.ownsRow w.heap.size 3 1 ve q.1.length (bY q.1)/\w'.ownsRow w.heap.size 61 4 vc q.2.length (dC q.2)
theorem Yj (Bk:Nat) (vm:V_) (modes:List (List aA)) (w:W_) (hk:Ue Bk w vm modes) (hn:modes.length<=10) (hm:∀m∈modes,m.length<=42) (hlt:∀m∈modes,∀k∈m,∀b,k.longer.getD b 0<m.length) :
  C_ 25 #[vm] w (XF (tN modes) w):=by
 obtain⟨am,cm,rfl⟩:=hk.form;obtain⟨il,hil,hl0,hl1,hl2⟩:=ip_ uF;have hb0:B_ w (w.alloc (c_ #[n_] 150)):=mi _;obtain⟨W1,mk1,ow1,gr1⟩:=run_make_own (P:=Tryz.prog) (w.alloc (c_ #[n_] 150)) w.heap.size 31 3 il _ 1 Tryz.underlying31 hil hl0 hl1 .i64 .i64 modes.length (by rw [hl2];omega) (by unfold maxLen;omega) hb0.size;have L0:Hid (Ly w (s_ ((w.alloc (c_ #[n_] 150)).heap.size) 0 modes.length) n_ (sV modes 0) W1):=by have b1:=uV gr1;have bw:dh (w.alloc (c_ #[n_] 150)) w.heap.size 150 [n_]:=hn_ _ _;exact⟨iT hb0 b1,⟨bN bw b1 (bO bw),fT _ _ _ _,di⟩,ow1⟩
 have HK:=bK hk;have HM:=bK hm;have IY:=bK hlt;clear hk hm hlt hb0 ow1 gr1;go_enter Tryz.func25,Tryz.ntmps25
 go_wp2_with fail
 clear mk1;rw [wa_] at L0
 go_loopg [5,7,14] modes.length (fun gk ev _ iv wx=>∃(i:Nat) (ve vc:V_),i<=modes.length/\gk=modes.length-i/\iv=I_ i/\ve=ev/\Ly w ve vc (sV modes i) wx)
 case atStart=>exact⟨0,_,_,zl_ _,rfl,rfl,rfl,L0.o⟩
 case round=>
  clear L0;obtain⟨i,ve,vc,aj4,rfl,rfl,rfl,hL⟩:=hrel;have LL:=bK (Vn modes HM.o i aj4);obtain⟨ac,cc,rfl,_,_⟩:=dS hL.wc.own;by_cases hi:i<modes.length
  .have d1:=nV i modes.length;have wi:=kg i;have ii0:=jg i;have ii1:(i:Int)<modes.length:=by omega
   obtain⟨K,hKi⟩:=qG modes i hi;have NX:=bK (Eu hKi);generalize sV modes i=q at *;obtain⟨gm,ua,un,uc,rfl,cu0,ku⟩:=HK.o.get hKi;have cu:wr.cell? (a_ gm i)=some (.slice ua un uc):=(World.cell?_of_block (hL.be.block gm (World.block_lt_of_cell? w _ cu0))).trans cu0;have KU:=bK ku;have c0:=bP 0 hL.wc.b rfl;have qm:B_ wr (wr.alloc (c_ #[I_ (q.2.length:Int)] 3)):=mi _;have LA:=bK (hL.below qm);have SZ:Hid (w.heap.size<=(wr.alloc (c_ #[I_ (q.2.length:Int)] 3)).heap.size):=LA.o.be.size;have KM:=bK (HM.o K (mg_ hKi));have KLT:=bK (IY.o K (mg_ hKi));have QL:q.1.length<=1000000:=by have:=LL.o;omega
   clear hL qm ku cu0 hKi;go_upto_region 7 with (at_builtin;go_must (refine yQ rfl (.tmp 18) (.tmp 22) rfl w.heap.size _ q.1 (q.2.length:Int) wr.heap.size rfl LA.o.e rfl (hn_ _ _) QL SZ.o ?_);intro g8 c8 w8 jd eO);have L8:=bK (LA.o.ent jd eO);clear jd eO LA SZ cu c0
   go_wp2_with fail
   refine (Uv w.heap.size Bk w.heap.size _ (.slice ua un uc) q.2 K w8 L8.o.wc (KU.o.below L8.o.be) (by have:=LL.o;omega) (by have:=KM.o;omega) KLT.o).mono ?_
   rintro e w9 ⟨rfl,vY,lk,wc⟩;have L9:Hid (Ly w (s_ g8 (q.1.length+1) c8) vY (sV modes (i+1)) w9):=by rw [NX.o];exact L8.o.on lk wc
   clear lk wc L8;go_wp2;go_roundg (modes.length-(i+1))
   case measure=>omega
   case rel=>exact⟨i+1,_,vY,by omega,rfl,by go_num,rfl,L9.o⟩
  .have d1:=mM i modes.length;have ei:i=modes.length:=by omega
   rw [ei,Vm] at hL;generalize tN modes=q at *;have c0:=bP 0 hL.wc.b rfl;obtain⟨ae,ce,rfl,_,_⟩:=dS hL.e;have HL:=bK hL;clear hL LL ei
   go_wp2_with fail
   go_quiet (fail);have FIN:Hid (XF q w (.returned (.tuple #[.slice ae q.1.length ce,.slice ac q.2.length cc])) (wr.drewN nq)):=by have L2:=HL.o.below (bd_ (Br_ _ _) nq);exact⟨_,_,rfl,L2.be,L2.e,L2.wc.own⟩
   clear HL c0;go_wp2
   go_ret2
   exact FIN.o
theorem QG:(Tryz.prog.info? 59).map (fun i=>(i.zero,i.size,i.bytes))=some (some (.agg #[I_ 0,I_ 0,I_ 0]),3,24):=by kernel_rfl
abbrev TJ (r:mJ):List V_:=[I_ r.emit,I_ r.act,I_ r.mode]
theorem yS {o:Oper} {a:Act} {Q:Exit->Act->W_->Prop} (hgd:o.guard=none) (s x:Operand)
  (ho:o.op=.call { callee:=.builtin .append,args:=#[s,x],argTypes:=#[40,40] }) (base:Nat) (v:V_) (u:List mJ) (q:mJ) (gx:Nat) (hs:a.eval s=v) (fH:w.ownsRow base 59 3 v u.length (eG u))
  (hx:a.eval x=s_ gx 1 1) (hb:dh w gx 59 (TJ q)) (kU:u.length<=1000) (nX:base<=w.heap.size)
  (h:∀v' w',w'.ownsRow base 59 3 v' (u++[q]).length (eG (u++[q]))->w.grownBy w' v.ownBlock->wpList Tryz.prog ops Q rest (a.put o.dst v') w'):wpList Tryz.prog ops Q (o::rest) a w:=by
 obtain⟨il,hil,hl0,hl1,hl2⟩:=ip_ QG;refine wo_ _ hgd s x 40 ho base 59 il _ 3 24 Tryz.underlying40 hil hl0 hl1 hl2 rfl (by decide) v u.length (eG u) hs fH (a_ gx 0) 1 1 (TJ q) hx rfl ?_ (fun z hz=>by simp at hz;rcases hz with rfl | rfl | rfl <;> rfl) (by unfold maxLen;omega) (by omega) nX ?_
 .intro j y hy;have:=bM hb hy;simpa [add_eq] using this
 .intro v' w' h1 h2 _;refine h v' w' ?_ h2;rw [la_];have e:eG (u++[q])=eG u++TJ q:=by simp [eG]
  rw [e];exact h1
theorem ab7:(Tryz.prog.info? 88).map (fun i=>(i.zero,i.size,i.bytes))=some (some n_,1,24):=by kernel_rfl
theorem Bn {o:Oper} {a:Act} {Q:Exit->Act->W_->Prop} (hgd:o.guard=none) (s x:Operand)
  (ho:o.op=.call { callee:=.builtin .append,args:=#[s,x],argTypes:=#[86,86] }) (base:Nat) (v:V_) (vs:List V_) (hs:a.eval s=v) (fH:w.ownsRow base 88 1 v vs.length vs)
  (gx:Nat) (q:V_) (hx:a.eval x=s_ gx 1 1) (hb:dh w gx 88 [q]) (hq:q.oneCell'=true) (kU:vs.length<=1000) (nX:base<=w.heap.size)
  (h:∀v' w',w'.ownsRow base 88 1 v' (vs++[q]).length (vs++[q])->w.grownBy w' v.ownBlock->wpList Tryz.prog ops Q rest (a.put o.dst v') w'):wpList Tryz.prog ops Q (o::rest) a w:=by
 obtain⟨il,hil,hl0,hl1,hl2⟩:=ip_ ab7;refine wo_ _ hgd s x 86 ho base 88 il _ 1 24 Tryz.underlying86 hil hl0 hl1 hl2 rfl (by decide) v vs.length vs hs fH (a_ gx 0) 1 1 [q] hx rfl ?_ (fun u hu=>by simp at hu;rw [hu];exact hq) (by unfold maxLen;omega) (by omega) nX ?_
 .intro j y hy;have:=bM hb hy;simpa [add_eq] using this
 .intro v' w' h1 h2 _;refine h v' w' ?_ h2;rw [la_];exact h1
theorem Kt.fnd {t0:Nat} {w':W_} {sss:List (List Pu.aN)} (h:Kt t0 w w') (hn:WK B w v sss) (h1:3≠t0) (h2:142≠t0) (h3:87≠t0):WK B w' v sss:=by obtain⟨vs,k1,k2,k3⟩:=hn;exact⟨vs,h.rows k1 h3,k2,fun j u ss a b=>⟨h.Wj (k3 j u ss a b).1 h1 h2,(k3 j u ss a b).2⟩⟩
theorem WK.get {a:Option Addr} {c:Nat} {sss:List (List Pu.aN)} (h:WK B W (.slice a n c) sss) {ss:List Pu.aN} (hj:sss[j]?=some ss) (hs:0<ss.length):∃g gs uc,a=some (a_ g 0)/\W.cell? (a_ g j)=some (s_ gs ss.length uc)/\qB B W (s_ gs ss.length uc) ss:=by
 obtain⟨vs,h1,h2,h3⟩:=h;have hl:=(ge_.1 hj).1;obtain⟨g,cap,e,_,_⟩:=dJ h1 (by omega);cases e
 have hu:vs[j]?=some (vs[j]'(by omega)):=gg_ (by omega);obtain⟨k1,_⟩:=h3 j _ ss hu hj;obtain⟨ts,t1,t2,t3⟩:=id k1;have tl:ts.length=ss.length:=by rw [<-t2,lm_]
 obtain⟨gs,uc,eu,_,_⟩:=dJ t1 (by omega);rw [tl] at eu;rw [eu] at hu k1;exact⟨g,gs,uc,rfl,bT h1 hu,k1⟩
theorem Kt.kdm {t0:Nat} {w':W_} (h:Kt t0 w w') (hn:Kk B w v K) (h1:148≠t0):Kk B w' v K:=⟨h.rows hn.own h1,hn.len⟩
structure Cm (w:W_) (gT:Nat) (all:List aC) (al:Option Addr) (nl cl:Nat) (ap:Option Addr) (np cp:Nat) (fv va:V_) (rs:List mJ) (W:W_):Prop where
 be:B_ w W
 b:dh W gT 78 [I_ (Pu.aV all:Nat),.slice al nl cl,.slice ap np cp]
 lm:Lm w.heap.size W (.slice al nl cl) (cB all).1
 fd:WK w.heap.size W fv (kW all (Pu.aV all))
 a:W.ownsRow w.heap.size 59 3 va rs.length (eG rs)
section
variable {w:W_} {gT:Nat} {all:List aC} {al:Option Addr} {nl cl:Nat} {ap:Option Addr} {np cp:Nat} {fv va va':V_} {rs:List mJ} {W W':W_}
theorem Cm.below (h:Cm w gT all al nl cl ap np cp fv va rs W) (hb:B_ W W'):Cm w gT all al nl cl ap np cp fv va rs W':=
 ⟨iT h.be hb,bN h.b hb (bO h.b),h.lm.below hb,h.fd.below hb,bU h.a hb di⟩
theorem Cm.ad9 (h:Cm w gT all al nl cl ap np cp fv va rs W) {r:mJ} (ho:W'.ownsRow w.heap.size 59 3 va' (rs++[r]).length (eG (rs++[r]))) (hg:W.grownBy W' va.ownBlock):Cm w gT all al nl cl ap np cp fv va' (rs++[r]) W':=by have kt:Kt 59 W W':=Kt.row h.a hg;exact⟨h.be.grown hg h.be.size (fun k e=>(ol_ h.a k e).1),kt.block h.b (by decide),kt.lm h.lm (by decide) (by decide),kt.fnd h.fd (by decide) (by decide) (by decide),ho⟩
theorem Cm.abr (h:Cm w gT all al nl cl ap np cp fv va rs W) {vm:V_} {vs:List V_} (hv:W.ownsRow w.heap.size 88 1 vm vs.length vs) (hg:W.grownBy W' vm.ownBlock):Cm w gT all al nl cl ap np cp fv va rs W':=by have kt:Kt 88 W W':=Kt.row hv hg;exact⟨h.be.grown hg h.be.size (fun k e=>(ol_ hv k e).1),kt.block h.b (by decide),kt.lm h.lm (by decide) (by decide),kt.fnd h.fd (by decide) (by decide) (by decide),kt.rows h.a (by decide)⟩
theorem Ue.add {vm v':V_} {vs:List V_} {a:Option Addr} {c:Nat} (h1:W.ownsRow B 88 1 vm vs.length vs) (h2:vs.length=KK.length) (h3:∀(j:Nat) (u:V_) (K:List aA),vs[j]?=some u->KK[j]?=some K->Kk B W u K/\∃a n c,u=.slice a n c)
  (hk:Kk B W (.slice a n c) K) (ho:W'.ownsRow B 88 1 v' (vs++[Value.slice a n c]).length (vs++[Value.slice a n c])) (hg:W.grownBy W' vm.ownBlock):Ue B W' v' (KK++[K]):=by
 have kt:Kt 88 W W':=Kt.row h1 hg;refine⟨_,ho,by simp [h2],fun j u K' a1 a2=>?_⟩;rcases sw a1 with ⟨hl,hk'⟩ | ⟨rfl,rfl⟩
 .rw [al_ (by omega)] at a2;exact⟨kt.kdm (h3 j u K' hk' a2).1 (by decide),(h3 j u K' hk' a2).2⟩
 .rw [ar_ (by omega),h2,Nat.sub_self] at a2;have:K=K':=by simpa using a2
  subst this;exact⟨kt.kdm hk (by decide),_,_,_,rfl⟩
end
namespace Pu
theorem NL (ls:List aD) {k:Nat} {x:aD} (h:ls[k]?=some x):(jD ls).take (k+1)=(jD ls).take k++[⟨x.emit,x.act,x.md⟩]:=by rw [List.take_add_one];unfold jD;rw [gm_,h];rfl
theorem UT (all:List aC) (h:j<aV all):(kW all (aV all))[j]?=some (fZ all j):=by unfold kW;rw [gm_,List.getElem?_range h];rfl
theorem Zi (all:List aC) (h:j<aV all):(oh all).take (j+1)=(oh all).take j++[jI (cB all).1 (fZ all j)]:=by rw [List.take_add_one];unfold oh;rw [gm_,List.getElem?_range h];rfl
def Xv (s:Y_) (en:Int) (str:Y_):Prop:=(∃no,Ak s en no)/\(en≠0->str=⟨#[]⟩)/\
 (en=0->∃all,sM s 0 [] all/\Aj Gx all/\Aj Oz all/\(∀j,j<aV all->(fZ all j).length<=42)/\str=strOfNums (vN (lS all)))
end Pu
theorem Lu (s:Y_) (w:W_):C_ 11 #[.string s] w (fun e w'=>∃en str,e=.returned (.tuple #[.string str,I_ en])/\B_ w w'/\Xv s en str):=by
 go_enter Tryz.func11,Tryz.ntmps11
 go_wp2_with fail
 refine (V5 s w).mono ?_
 rintro e w1 ⟨a,b,c,fv,en,no,rfl,hb,hp,hn,hy⟩;by_cases he:en=0
 .subst he;obtain⟨all,al,nl,cl,ap,np,cp,hL,hD,hE,wT,rfl,rfl,rfl,lm,pl,fd⟩:=hy rfl;obtain⟨vs0,fo,fl,_⟩:=id fd;obtain⟨af,cf,rfl,_,_⟩:=dS fo;have fl2:vs0.length=Pu.aV all:=by rw [fl];simp [kW]
  rw [fl2] at fd;rw [fl2];have zl:=hL.zl;have nm:=EI zl.1;have nm4:=nm.2.2;have MP:=iV all
  have yK:(cB all).2.length<=1000:=by
   rw [MP.len]
   have:s.size<=300:=by
    rcases hp with ⟨_,e,_⟩ | ⟨h,_⟩ | ⟨h,_⟩
    .cases e
    .exact h
    .exact h
   exact lt_ hL.Jb (by omega)
  have slen:s.size<=1000:=by
   rcases hp with ⟨_,e,_⟩ | ⟨h,_⟩ | ⟨h,_⟩
   .cases e
   .omega
   .omega
  have ahc:(cB all).1.length<=16:=by rw [MP.n];omega
  have PTS:Hid (∀x∈(cB all).1,mI (cB all).2.length x.pt):=by have:=MP.pts;rw [<-MP.len] at this;exact this
  have akz:nl=(cB all).1.length:=by obtain⟨_,_,e,_⟩:=lm.len;cases e;rfl
  have hb2:=(Br_ w1.heap.size w1).alloc di (c_ #[I_ (Pu.aV all:Nat),.slice al nl cl,.slice ap np cp] 78);have hb3:=hb2.alloc (by simp) (c_ #[] 59);have C0:Hid (Cm w w1.heap.size all al nl cl ap np cp (.slice af (Pu.aV all) cf) (.slice (some ⟨w1.heap.size+1,0,none⟩) 0 0) ((jD (cB all).1).take 0) ((w1.alloc (c_ #[I_ (Pu.aV all:Nat),.slice al nl cl,.slice ap np cp] 78)).alloc (c_ #[] 59))):=by have on:=rV (w1.alloc (c_ #[I_ (Pu.aV all:Nat),.slice al nl cl,.slice ap np cp] 78)) 59 3;rw [wa_] at on;have szw:=hb.size;exact⟨iT hb hb3,dx (hn_ _ _) _,lm.below hb3,fd.below hb3,dH on (by omega)⟩
  have Xk:=bK hL;have HD:=bK hD;have HE:=bK hE;have H42:=bK wT;have HP:=bK hp;subst akz;clear hb hp hn hy hL hD hE wT lm pl fd fo fl fl2 hb2 hb3 zl nm MP;go_upto_region 5 with (fail);generalize (w1.alloc (c_ #[I_ (Pu.aV all:Nat),.slice al (cB all).1.length cl,.slice ap np cp] 78)).alloc (c_ #[] 59)=W2 at *;generalize hva:Value.slice (some ⟨w1.heap.size+1,0,none⟩) 0 0=va0 at *;generalize w1.heap.size=gT at *;have t1:=bP 1 C0.o.b rfl
  go_wp2_with fail
  clear t1
  go_loopg [8,10,30] (cB all).1.length (fun gk av _ kv wx=>∃(k:Nat) (v:V_),k<=(cB all).1.length/\gk=(cB all).1.length-k/\kv=I_ k/\v=av/\Cm w gT all al (cB all).1.length cl ap np cp (.slice af (Pu.aV all) cf) v ((jD (cB all).1).take k) wx)
  case atStart=>exact⟨0,_,zl_ _,rfl,rfl,rfl,C0.o⟩
  case round=>
   clear C0 hva;obtain⟨k,v,kl,rfl,rfl,rfl,hC⟩:=hrel;by_cases hk:k<(cB all).1.length
   .have d1:decide ((k:Int)<((cB all).1.length:Int))=true:=dt_ (by omega);have wi:=kg k;have Mr:=jg k;have Ij:(k:Int)<((cB all).1.length:Int):=by omega
    obtain⟨x,hx⟩:∃x,(cB all).1[k]?=some x:=⟨_,gg_ hk⟩;have TK:=bK (NL (cB all).1 hx);have RL:((jD (cB all).1).take k).length<=1000:=by rw [List.length_take];omega
    obtain⟨g,cap,afx,mfx,cfx,alx,nlx,clx,ev,hr,n1,n2⟩:=hC.lm.get hx;cases ev;generalize (jD (cB all).1).take k=rs at *;have hbb:=(Br_ wr.heap.size wr).alloc di (c_ (kC (x,.slice afx mfx cfx,.slice alx nlx clx)).toArray 85);have C2:=bK (hC.below hbb);have BX:Hid (dh (wr.alloc (c_ (kC (x,.slice afx mfx cfx,.slice alx nlx clx)).toArray 85)) wr.heap.size 85 (kC (x,.slice afx mfx cfx,.slice alx nlx clx))):=hn_ _ _;have HR:=bK hr;clear hr hx n1 n2 hbb hC;obtain⟨mo,em,ac,md,⟨ep,fi,la⟩,dn⟩:=x;simp only [kC] at C2 BX HR;simp only at TK;go_upto_region 8 with (refine wl_ rfl 85 (.tmp 32) rfl g (k*8) rfl _ _ HR.o Tryz.underlying85 rfl qZ ?_);have x1:=bP 1 BX.o rfl;have x2:=bP 2 BX.o rfl;have x3:=bP 3 BX.o rfl;clear HR BX;generalize wr.alloc (c_ #[I_ mo,I_ em,I_ ac,I_ md,.bool ep,.slice afx mfx cfx,.slice alx nlx clx,.bool dn] 85)=W3 at *;generalize wr.heap.size=gx at *;have qm:B_ W3 (W3.alloc (c_ #[I_ em,I_ ac,I_ md] 59)):=mi _;have CA:=bK (C2.o.below qm);have SZ:Hid (w.heap.size<=(W3.alloc (c_ #[I_ em,I_ ac,I_ md] 59)).heap.size):=CA.o.be.size;have NB:Hid (dh (W3.alloc (c_ #[I_ em,I_ ac,I_ md] 59)) W3.heap.size 59 (TJ ⟨em,ac,md⟩)):=hn_ _ _;clear C2 qm;go_upto_region 9 with (at_builtin;go_must (refine yS rfl (.tmp 34) (.tmp 37) rfl w.heap.size v rs ⟨em,ac,md⟩ W3.heap.size rfl CA.o.a rfl NB.o RL SZ.o ?_);intro v8 w8 jd eO);have C8:=bK (CA.o.ad9 jd eO);clear jd eO CA SZ NB x1 x2 x3;go_wp2;go_roundg ((cB all).1.length-(k+1))
    case measure=>omega
    case rel=>exact⟨k+1,v8,by omega,rfl,by go_num,rfl,by rw [TK.o];exact C8.o⟩
   .have d1:decide ((k:Int)<((cB all).1.length:Int))=false:=dn_ (by omega);have ek:(jD (cB all).1).take k=jD (cB all).1:=List.take_of_length_le (by unfold jD;rw [lm_];omega);rw [ek] at hC;have hb5:B_ wr (wr.alloc (c_ #[] 88)):=mi _;have C5:=bK (hC.below hb5);have K5:Hid (Ue w.heap.size (wr.alloc (c_ #[] 88)) (.slice (some ⟨wr.heap.size,0,none⟩) 0 0) ((oh all).take 0)):=by have on:=rV wr 88 1;exact⟨[],dH on hC.be.size,rfl,fun j u K hu=>by simp at hu⟩
    clear hC hb5 ek;go_upto_region 11 with (fail);generalize wr.alloc (c_ #[] 88)=W5 at *;generalize Value.slice (some ⟨wr.heap.size,0,none⟩) 0 0=vm0 at *
    go_wp2_with fail
    go_loopg [11,13,43] (Pu.aV all) (fun gk mv _ jv wx=>∃(j:Nat) (vm:V_),j<=Pu.aV all/\gk=Pu.aV all-j/\jv=I_ j/\vm=mv/\Cm w gT all al (cB all).1.length cl ap np cp (.slice af (Pu.aV all) cf) v (jD (cB all).1) wx/\Ue w.heap.size wx vm ((oh all).take j))
    case atStart=>exact⟨0,_,zl_ _,rfl,rfl,rfl,C5.o,K5.o⟩
    case round=>
     clear C5 K5;obtain⟨j,vm,jl,rfl,rfl,rfl,hC,hK⟩:=hrel;by_cases hj:j<Pu.aV all
     .have d2:=nV j (Pu.aV all:Int);have wj:=kg j;have ij0:=jg j;have ij1:(j:Int)<(Pu.aV all:Int):=by omega
      have LED:=bK (Fx H42.o hj);have PLC:=bK (NV Xk.o H42.o hj);have SL:=bK (H42.o j hj);have KT:=bK (Zi all hj);have FG:=UT all hj;generalize fZ all j=ss at *;obtain⟨gF,gs,uc,rfl,cu,hS⟩:=hC.fd.get FG (by have:=LED.o.two;omega);have fw:=bK (Vk w.heap.size (cB all).2.length gs uc (.slice al (cB all).1.length cl) (cB all).1 ss wr hC.lm hS (by omega) yK PTS.o (fun x hx=>by have:=PLC.o x hx;omega) LED.o.lt (by have:=SL.o;omega));have t1:=bP 1 hC.b rfl;have HC:=bK hC;have HK:=bK hK;clear hC hK hS FG
      go_wp2_with fail
      refine fw.o.mono ?_
      clear fw cu t1;rintro e w6 ⟨v6,rfl,hb6,k6⟩;obtain⟨a6,c6,rfl,_,_⟩:=dS k6.own;have K6:Hid (Kk w.heap.size w6 (.slice a6 (jI (cB all).1 ss).length c6) (jI (cB all).1 ss)):=⟨dH k6.own HC.o.be.size,k6.len⟩;have C6:=bK (HC.o.below hb6);have L6:=bK (HK.o.below hb6);clear k6 hb6 HC HK;generalize jI (cB all).1 ss=K at *;have qm:B_ w6 (w6.alloc (c_ #[.slice a6 K.length c6] 88)):=mi _;have C7:=bK (C6.o.below qm);have K7:=bK (K6.o.below qm);have NB:Hid (dh (w6.alloc (c_ #[.slice a6 K.length c6] 88)) w6.heap.size 88 [.slice a6 K.length c6]):=hn_ _ _;have SZ:Hid (w.heap.size<=(w6.alloc (c_ #[.slice a6 K.length c6] 88)).heap.size):=C7.o.be.size;obtain⟨vs,v1,v2,v3⟩:=L6.o.below qm;have V1:=bK v1;have V2:=bK v2;have V3:=bK v3;have vl:vs.length<=1000:=by rw [v2,List.length_take];omega
      clear C6 K6 L6 qm v1 v2 v3
      go_wp2_with (at_builtin;go_must (refine Bn rfl (.tmp 47) (.tmp 52) rfl w.heap.size vm vs rfl V1.o w6.heap.size (.slice a6 K.length c6) rfl NB.o rfl vl SZ.o ?_);intro v8 w8 jd eO)
      have K8:=bK (Ue.add V1.o V2.o V3.o K7.o jd eO);have C8:=bK (C7.o.abr V1.o eO);clear jd eO C7 K7 NB SZ V1 V2 V3;go_roundg (Pu.aV all-(j+1))
      case measure=>omega
      case rel=>exact⟨j+1,v8,by omega,rfl,by go_num,rfl,C8.o,by rw [KT.o];exact K8.o⟩
     .have d2:=mM j (Pu.aV all:Int);have ej:(oh all).take j=oh all:=List.take_of_length_le (by rw [xO];omega);rw [ej] at hK;have KKO:Hid (∀m∈oh all,Di all.length m):=fun m hm=>by obtain⟨i,hi⟩:=gf_ hm;exact (Et H42.o hi).ok
      have fw:=bK (Yj w.heap.size vm (oh all) wr hK (by rw [xO];omega) (fun m hm=>(KKO.o m hm).1) (fun m hm k hk=>((KKO.o m hm).2 k hk).2.2));have HC:=bK hC;clear hC hK ej
      go_wp2_with fail
      refine fw.o.mono ?_
      clear fw;rintro e w7 ⟨ve,vc,rfl,hb7,e7,c7⟩;have C7:=HC.o.below hb7;have B7:=bK C7.be;obtain⟨ae,ce,rfl,_,_⟩:=dS e7;obtain⟨ac,cc,rfl,_,_⟩:=dS c7;obtain⟨aa,ca,ea,_,_⟩:=dS C7.a;subst ea;have WR:=bK (WG _ _ _ (lS all) w7 (zM e7 rfl) (Bc C7.a rfl) (EU c7 rfl) (uS Xk.o H42.o));clear C7 e7 c7 hb7 HC
      go_wp2_with fail
      refine WR.o.mono ?_
      rintro e w8 ⟨rfl,hb8⟩;have B8:=bK (iT B7.o hb8);have FIN:Hid (Xv s 0 (strOfNums (vN (lS all)))):=⟨⟨no,HP.o⟩,fun h=>absurd rfl h,fun _=>⟨all,Xk.o,HD.o,HE.o,H42.o,rfl⟩⟩;clear WR hb8 B7;generalize strOfNums (vN (lS all))=str at *;go_wp2
      go_ret2
      exact⟨0,str,rfl,B8.o,FIN.o⟩
 .obtain⟨h1,rfl⟩:=hn he;cases h1
  have e0:(en != 0)=true:=by simpa using he
  have e1:(en == 0)=false:=by simpa using he
  have B2:=bK (hb.alloc hb.size (c_ #[I_ 0,n_,n_] 78));have FIN:Hid (Xv s en ⟨#[]⟩):=⟨⟨no,hp⟩,fun _=>rfl,fun h=>absurd h he⟩;clear hb hp hn hy;go_wp2
  go_ret2
  exact⟨en,_,rfl,B2.o,FIN.o⟩
namespace Pu
section
variable {s:Y_}
theorem OL.zq {c v v':Int} (h:OL c v) (h':OL c v'):v'=v:=by unfold OL at *;omega
theorem Sg.zq {i j j':Nat} {v v':Int} (h:Sg s i j v) (h':Sg s i j' v'):j'=j/\v'=v:=by
 cases h with
 | plain a b=>
  cases h' with
  | plain _ _=>exact⟨rfl,rfl⟩
  | wP c _=>exact absurd c b
 | wP a b=>
  cases h' with
  | plain _ d=>exact absurd a d
  | wP _ d=>exact⟨rfl,b.zq d⟩
theorem ay.zq {i j j':Nat} {v v' u u':Int} {r r':Bool} (h:ay s i j v u r) (h':ay s i j' v' u' r'):j'=j/\v'=v/\u'=u:=by
 cases h with
 | one a b=>
  cases h' with
  | one c d=>obtain⟨rfl,rfl⟩:=a.zq c;exact⟨rfl,rfl,rfl⟩
  | range c d e=>obtain⟨rfl,rfl⟩:=a.zq c;exact absurd d b
 | range a b c=>
  cases h' with
  | one d e=>obtain⟨rfl,rfl⟩:=a.zq d;exact absurd b e
  | range d e f=>obtain⟨rfl,rfl⟩:=a.zq d;obtain⟨rfl,rfl⟩:=c.zq f;exact⟨rfl,rfl,rfl⟩
theorem aj.zq {i k:Nat} {T T1:Nat->Bool} {D D1:Bool} (h:aj s i T D k T1 D1):∀{k':Nat} {T2:Nat->Bool} {D2:Bool},aj s i T D k' T2 D2->k'=k/\T2=T1/\D2=D1:=by
 induction h with
 | done a b=>
  intro k' T2 D2 h'
  cases h' with
  | done c d=>obtain⟨rfl,rfl,rfl⟩:=a.zq c;exact⟨rfl,rfl,rfl⟩
  | more c d e=>obtain⟨rfl,rfl,rfl⟩:=a.zq c;exact absurd b d
 | more a b _ ih=>
  intro k' T2 D2 h'
  cases h' with
  | done c d=>obtain⟨rfl,rfl,rfl⟩:=a.zq c;exact absurd d b
  | more c d e=>obtain⟨rfl,rfl,rfl⟩:=a.zq c;exact ih e
theorem P.zq {t:aH} {i j:Nat} {a:aM} {D:Bool} (h:P s t i j a D):∀{j':Nat} {a':aM} {D':Bool},P s t i j' a' D'->j'=j/\a'=a/\D'=D:=by
 induction h with
 | any h1=>
  intro j' a' D' h'
  cases h' with
  | any _=>exact⟨rfl,rfl,rfl⟩
  | Si _ _ _ _ k=>exact absurd h1 k
  | wP k _=>omega
  | cls k _ _=>omega
  | wZ k _ _=>omega
  | Me k _ _=>omega
 | Si h1 h2 h3 h4 h5=>
  intro j' a' D' h'
  cases h' with
  | any k=>exact absurd k h5
  | Si _ _ _ _ _=>exact⟨rfl,rfl,rfl⟩
  | wP k _=>exact absurd k h2
  | cls k _ _=>exact absurd k h4
  | wZ k _ _=>exact absurd k h4
  | Me k _ _=>exact absurd k h3
 | wP h1 h2=>
  intro j' a' D' h'
  cases h' with
  | any k=>omega
  | Si _ k _ _ _=>exact absurd h1 k
  | wP _ k=>rw [h2.zq k];exact⟨rfl,rfl,rfl⟩
  | cls k _ _=>omega
  | wZ k _ _=>omega
  | Me k _ _=>omega
 | cls h1 h2 h3=>
  intro j' a' D' h'
  cases h' with
  | any k=>omega
  | Si _ _ _ k _=>exact absurd h1 k
  | wP k _=>omega
  | cls _ _ k=>obtain⟨rfl,rfl,rfl⟩:=h3.zq k;exact⟨rfl,rfl,rfl⟩
  | wZ _ k _=>exact absurd k h2
  | Me k _ _=>omega
 | wZ h1 h2 h3=>
  intro j' a' D' h'
  cases h' with
  | any k=>omega
  | Si _ _ _ k _=>exact absurd h1 k
  | wP k _=>omega
  | cls _ k _=>exact absurd h2 k
  | wZ _ _ k=>obtain⟨rfl,rfl,rfl⟩:=h3.zq k;exact⟨rfl,rfl,rfl⟩
  | Me k _ _=>omega
 | Me h1 _ _ ih=>
  intro j' a' D' h'
  cases h' with
  | any k=>omega
  | Si _ _ k _ _=>exact absurd h1 k
  | wP k _=>omega
  | cls k _ _=>omega
  | wZ k _ _=>omega
  | Me _ k _=>obtain⟨rfl,rfl,rfl⟩:=ih k;exact⟨rfl,rfl,rfl⟩
 | EZ h1 h2 h3=>
  intro j' a' D' h'
  cases h' with
  | EZ _ _ _=>exact⟨rfl,rfl,rfl⟩
  | star k _=>exact absurd k h1
  | plus k _=>exact absurd k h2
  | opt k _=>exact absurd k h3
 | star h1 _ ih=>
  intro j' a' D' h'
  cases h' with
  | EZ k _ _=>exact absurd h1 k
  | star _ k=>exact ih k
  | plus k _=>omega
  | opt k _=>omega
 | plus h1 _ ih=>
  intro j' a' D' h'
  cases h' with
  | EZ _ k _=>exact absurd h1 k
  | star k _=>omega
  | plus _ k=>exact ih k
  | opt k _=>omega
 | opt h1 _ ih=>
  intro j' a' D' h'
  cases h' with
  | EZ _ _ k=>exact absurd h1 k
  | star k _=>omega
  | plus k _=>omega
  | opt _ k=>exact ih k
 | pc _ _ ih1 ih2=>
  intro j' a' D' h'
  cases h' with
  | pc k l=>obtain⟨rfl,rfl,rfl⟩:=ih1 k;exact ih2 l
 | Jf h1=>
  intro j' a' D' h'
  cases h' with
  | Jf _=>exact⟨rfl,rfl,rfl⟩
  | zn k _ _=>exact absurd k h1
 | zn h1 _ _ ih1 ih2=>
  intro j' a' D' h'
  cases h' with
  | Jf k=>exact absurd h1 k
  | zn _ k l=>obtain⟨rfl,rfl,rfl⟩:=ih1 k;exact ih2 l
 | br _ _ ih1 ih2=>
  intro j' a' D' h'
  cases h' with
  | br k l=>obtain⟨rfl,rfl,rfl⟩:=ih1 k;exact ih2 l
 | GJ h1=>
  intro j' a' D' h'
  cases h' with
  | GJ _=>exact⟨rfl,rfl,rfl⟩
  | yJ k _ _=>exact absurd k h1
 | yJ h1 _ _ ih1 ih2=>
  intro j' a' D' h'
  cases h' with
  | GJ k=>exact absurd h1 k
  | yJ _ k l=>obtain⟨rfl,rfl,rfl⟩:=ih1 k;exact ih2 l
 | pa _ _ ih1 ih2=>
  intro j' a' D' h'
  cases h' with
  | pa k l=>obtain⟨rfl,rfl,rfl⟩:=ih1 k;exact ih2 l
theorem Act.zq {i k k':Nat} {e e' c c' m m':Int} (h:Act s i k e c m) (h':Act s i k' e' c' m'):k'=k/\e'=e/\c'=c/\m'=m:=by
 cases h with
 | plain a b1 b2 b3=>
  cases h' with
  | plain d _ _ _=>unfold nH at *;exact⟨rfl,by omega,rfl,rfl⟩
  | pop _ d=>exact absurd d b1
  | bG _ d _=>exact absurd d b2
  | push _ d _=>exact absurd d b3
 | pop a b=>
  cases h' with
  | plain _ d _ _=>exact absurd b d
  | pop d _=>unfold nH at *;exact⟨rfl,by omega,rfl,rfl⟩
  | bG _ d _=>omega
  | push _ d _=>omega
 | bG a b _=>
  cases h' with
  | plain _ _ d _=>exact absurd b d
  | pop _ d=>omega
  | bG d _ _=>unfold nH at *;exact⟨rfl,by omega,rfl,rfl⟩
  | push _ d _=>omega
 | push a b _=>
  cases h' with
  | plain _ _ _ d=>exact absurd b d
  | pop _ d=>omega
  | bG _ d _=>omega
  | push d _ _=>unfold nH at *;exact⟨rfl,by omega,rfl,rfl⟩
theorem Hd.zq {i k k':Nat} {x x':aC} (h:Hd s i k x) (h':Hd s i k' x'):k'=k/\x'=x:=by
 cases h with
 | mk a b c d e=>
  cases h' with
  | mk a' b' c' d' e'=>obtain⟨rfl,rfl,rfl⟩:=c.zq c';obtain⟨rfl,rfl,rfl,rfl⟩:=e.zq e';exact⟨rfl,rfl⟩
theorem sM.zq {i:Nat} {ls all:List aC} (h:sM s i ls all):∀{all':List aC},sM s i ls all'->all'=all:=by
 induction h with
 | done a=>
  intro all' h'
  cases h' with
  | done b=>obtain⟨_,rfl⟩:=a.zq b;rfl
  | more b c _ _=>obtain⟨rfl,rfl⟩:=a.zq b;exfalso;unfold dG at c;rw [if_neg (Nat.lt_irrefl _)] at c;omega
 | more a b _ _ ih=>
  intro all' h'
  cases h' with
  | done c=>obtain⟨rfl,rfl⟩:=a.zq c;exfalso;unfold dG at b;rw [if_neg (Nat.lt_irrefl _)] at b;omega
  | more c d _ e=>obtain⟨rfl,rfl⟩:=a.zq c;exact ih e
end
end Pu
end Go.Proofs.YtmccnmgaoppogaaGreat
