import Derived.Test.YtmccnmgaoppogaaGreatKbp
import Derived.WalkSmall
namespace Go.Proofs.YtmccnmgaoppogaaGreat
open Pu
set_option linter.all false
set_option maxRecDepth 100000
set_option maxHeartbeats 8000000
open Go.RowKit
theorem uC {zs:List Gz} {k:Nat} {x:Gz} (h:zs[k]?=some x):(xW zs)[k*2]?=some (p_ x.g)/\(xW zs)[k*2+1]?=some (p_ x.gs):=by
 induction zs generalizing k with
 | nil=>simp at h
 | cons z r ih=>
  cases k with
  | zero=>simp at h;subst h;simp [xW]
  | succ k=>have:=ih (k:=k) (by simpa using h);have e:xW (z::r)=[p_ z.g,p_ z.gs]++xW r:=rfl;rw [e,ar_ (by simp;omega),ar_ (by simp;omega),show (k+1)*2 - [p_ z.g,p_ z.gs].length=k*2 by simp;omega,show (k+1)*2+1 - [p_ z.g,p_ z.gs].length=k*2+1 by simp;omega];exact this
theorem zO {l:List Al} {k:Nat} {x:Al} (h:l[k]?=some x):(Be l)[k*2]?=some (.string x.s)/\(Be l)[k*2+1]?=some (p_ x.g):=by
 induction l generalizing k with
 | nil=>simp at h
 | cons z r ih=>
  cases k with
  | zero=>simp at h;subst h;simp [Be]
  | succ k=>have:=ih (k:=k) (by simpa using h);have e:Be (z::r)=[.string z.s,p_ z.g]++Be r:=rfl;rw [e,ar_ (by simp;omega),ar_ (by simp;omega),show (k+1)*2 - [Value.string z.s,p_ z.g].length=k*2 by simp;omega,show (k+1)*2+1 - [Value.string z.s,p_ z.g].length=k*2+1 by simp;omega];exact this
theorem WI.grow {N N' gw gd:Nat} {iG:List Al} {zs:List Gz} {ts:List Tl} {n:Int} {mG mR jh jb:V_} {W:W_} (h:WI N gw gd iG zs ts n mG mR jh jb W) (hN:N<=N'):WI N' gw gd iG zs ts n mG mR jh jb W:=
 ⟨⟨h.q.w,h.q.im,h.q.sc,h.q.parts,fun x hx=>⟨(h.q.gz x hx).c,(h.q.gz x hx).d,(h.q.gz x hx).same,lt_ (h.q.gz x hx).n1 hN,lt_ (h.q.gz x hx).n2 hN⟩,h.q.sz,h.q.pic⟩,h.d,h.tl,h.tn,h.yV,h.ap,h.up⟩
def XJ (N gw gd li lz lt:Nat) (ts:List Tl) (n:Int) (w:W_) (e:Ending) (w':W_):Prop:=
 e=.returned (.bool true)/\Below gd w w'/\∃iG zs ts' n' mG mR jh jb,WI N gw gd iG zs ts' n' mG mR jh jb w'/\iG.length<=li+1/\zs.length<=lz+1/\ts'.length<=lt+1/\(0<=n'/\n'<=n+1)/\∀x∈ts',x∈ts\/x.cap<=9223372036854775807
theorem Wt (N gw gd:Nat) (iG:List Al) (zs:List Gz) (ts:List Tl) (n:Int) (mG mR jh jb:V_) (kind on a b:Int) (s:Y_) (ae ar ac:Option Addr) (ne ce nr cr nc cc:Nat) (w:W_) (h:WI N gw gd iG zs ts n mG mR jh jb w) (hN:N+s.size<=1099511627776) (hn:0<=n/\n<=1099511627776) (hts:ts.length<=1099511627776) (hzs:zs.length<=1099511627776) (him:iG.length<=1099511627776) (vK:Bv s)
  (ra:Gh a) (rb:Gh b) (ro:Gh on) (hk:kind=8\/kind=2\/kind=3\/kind=4\/kind=9) :
  C_ 9 #[p_ gw,.agg #[I_ kind,I_ on,I_ a,I_ b,.string s,.slice ae ne ce,.slice ar nr cr,.slice ac nc cc]] w (XJ (N+s.size) gw gd iG.length zs.length ts.length ts n w):=by
 have HM:=bK vK;clear vK;obtain⟨ai,ci,rfl,i1,i2⟩:=T.oo h.q.im;obtain⟨az,cz,rfl,s1,s2⟩:=T.oo h.q.sc;have H0:=bK (h.below (mi (c_ #[I_ kind,I_ on,I_ a,I_ b,.string s,.slice ae ne ce,.slice ar nr cr,.slice ac nc cc] 45)));have KO:Hid (dh (w.alloc (c_ #[I_ kind,I_ on,I_ a,I_ b,.string s,.slice ae ne ce,.slice ar nr cr,.slice ac nc cc] 45)) w.heap.size 45 [I_ kind,I_ on,I_ a,I_ b,.string s,.slice ae ne ce,.slice ar nr cr,.slice ac nc cc]):=hn_ w _;have wl:=bO h.q.w;have c0:=bP 0 h.q.w rfl;have ne1:gw≠w.heap.size:=by omega
 have yZ:w.heap.size≠gw:=by omega
 have LO:Hid (Below gd w (w.alloc (c_ #[I_ kind,I_ on,I_ a,I_ b,.string s,.slice ae ne ce,.slice ar nr cr,.slice ac nc cc] 45))):=(Br_ _ _).alloc (ll_ (bO h.d)) _;clear h;go_enter Tryz.func9,Tryz.ntmps9;go_upto_region 2 with (fail)
 clear c0 ne1 yZ wl;generalize w.alloc (c_ #[I_ kind,I_ on,I_ a,I_ b,.string s,.slice ae ne ce,.slice ar nr cr,.slice ac nc cc] 45)=W0 at *;generalize w.heap.size=ga at *;have o0:=bP 0 KO.o rfl;have o1:=bP 1 KO.o rfl;have o2:=bP 2 KO.o rfl;have o3:=bP 3 KO.o rfl;have o4:=bP 4 KO.o rfl;have c0:=bP 0 H0.o.q.w rfl;have c1:=bP 1 H0.o.q.w rfl
 have SAME:Hid (∀W,Below gd W0 W->WI (N+s.size) gw gd iG zs ts n (.slice ai iG.length ci) (.slice az zs.length cz) jh jb W->XJ (N+s.size) gw gd iG.length zs.length ts.length ts n w (.returned (.bool true)) W):=fun W hb hW=>⟨rfl,LO.o.trans hb,_,_,_,_,_,_,_,_,hW,by omega,by omega,by omega,⟨hn.1,by omega⟩,fun x hx=>.inl hx⟩
 have GROW:Hid (∀W,WI N gw gd iG zs ts n (.slice ai iG.length ci) (.slice az zs.length cz) jh jb W->WI (N+s.size) gw gd iG zs ts n (.slice ai iG.length ci) (.slice az zs.length cz) jh jb W):=fun W hW=>hW.grow (by omega)
 have GRW:Hid (∀(W:W_) (zs':List Gz) (v2:V_),WI N gw gd iG zs' ts n (.slice ai iG.length ci) v2 jh jb W->WI (N+s.size) gw gd iG zs' ts n (.slice ai iG.length ci) v2 jh jb W):=fun W zs' v2 hW=>hW.grow (by omega)
 by_cases k9:kind=9
 .subst k9;by_cases hz:0<zs.length
  .have hz1:=nV (0:Int) (zs.length:Int);obtain⟨k,hk,hkl⟩:∃k:Nat,Ty on zs.length=(k:Int)/\k<zs.length:=by have:=Qs on hz;exact⟨(Ty on zs.length).toNat,by omega,by omega⟩
   obtain⟨x,hx⟩:=qG zs k hkl;obtain⟨gz,cz',e,-,-⟩:=dJ H0.o.q.sc hz;cases e
   have PICK:Hid (∀W,C_ 17 #[I_ on,I_ zs.length] W (sN (I_ k) W)):=fun W=>by have:=ZU on zs.length W ro (by omega) (by omega);rwa [hk] at this
   have b0:=Below.drew (Br_ W0.heap.size W0);have k0:=(H0.o.below b0).q.gz x (mg_ hx);have ST:=bK (LV x.g x.gs _ _ x.E x.E' x.C W0.drew k0.c k0.d (fun h=>by rw [k0.same h]));have S1:W0.drew.cell? (a_ gw 1)=some (s_ gz zs.length cz)/\W0.drew.cell? (a_ ga 1)=some (I_ on)/\W0.drew.cell? (a_ gz (k*2))=some (p_ x.g)/\W0.drew.cell? (a_ gz (k*2+1))=some (p_ x.gs):=⟨c1,o1,bT H0.o.q.sc (uC hx).1,bT H0.o.q.sc (uC hx).2⟩;have Ij:=jg k;have ik2:(k:Int)<zs.length:=by omega
   have vJ:Hid (∀w',B_ W0.drew w'->w'.cell? (a_ gw 1)=some (s_ gz zs.length cz)/\w'.cell? (a_ ga 1)=some (I_ on)/\w'.cell? (a_ gz (k*2))=some (p_ x.g)/\w'.cell? (a_ gz (k*2+1))=some (p_ x.gs)):=fun w' hb=>
    ⟨(hb.cell (p:=(a_ gw 1)) (bO H0.o.q.w)).trans S1.1,(hb.cell (p:=(a_ ga 1)) (bO KO.o)).trans S1.2.1,(hb.cell (p:=(a_ gz (k*2))) (lI H0.o.q.sc).2).trans S1.2.2.1,(hb.cell (p:=(a_ gz (k*2+1))) (lI H0.o.q.sc).2).trans S1.2.2.2⟩
   clear k0 b0 hx hk
   go_wp2_with fail
   clear c0 c1 o0 o1 o2 o3 o4
   go_region_held3 (fun w'=>w'.cell? (a_ gw 1)=some (s_ gz zs.length cz)/\w'.cell? (a_ ga 1)=some (I_ on)/\w'.cell? (a_ gz (k*2))=some (p_ x.g)/\w'.cell? (a_ gz (k*2+1))=some (p_ x.gs)) (first | assumption | exact vJ.o _ hb) (first | (go_at_call 17;refine (PICK.o _).mono ?_;rintro e w' ⟨rfl,rfl⟩) | (go_at_call 22;refine ST.o.mono ?_;rintro e w' ⟨rfl,hb⟩))
   have W1:=bK ((H0.o.below (Below.drew (Br_ W0.heap.size W0))).below hb);have LB:Hid (Below gd W0 w'):=(Br_ gd W0).drew.trans (hb.mono (ll_ (bO H0.o.d)));go_wp2;go_ret;exact SAME.o _ LB.o (GROW.o _ W1.o)
  .have hz0:=mM (0:Int) (zs.length:Int);go_wp2;go_ret;exact SAME.o _ (Br_ _ _) (GROW.o _ H0.o)
 by_cases k34:kind=3\/kind=4
 .have q1:(kind == 1)=false:=by simp;omega
  have q2:(kind == 2)=false:=by simp;omega
  by_cases hz:0<zs.length
  .have hz1:=nV (0:Int) (zs.length:Int);obtain⟨k,hk,hkl⟩:∃k:Nat,Ty on zs.length=(k:Int)/\k<zs.length:=by have:=Qs on hz;exact⟨(Ty on zs.length).toNat,by omega,by omega⟩
   obtain⟨x,hx⟩:=qG zs k hkl;obtain⟨gz,cz',e,-,-⟩:=dJ H0.o.q.sc hz;cases e
   have PICK:Hid (∀W,C_ 17 #[I_ on,I_ zs.length] W (sN (I_ k) W)):=fun W=>by have:=ZU on zs.length W ro (by omega) (by omega);rwa [hk] at this
   have FD:=bK (abG N gw gd k iG zs ts n _ _ jh jb x kind on a b s ae ar ac ne ce nr cr nc cc W0.drew (H0.o.below (Below.drew (Br_ W0.heap.size W0))) hx hN hn hts);have o5:=bP 5 KO.o rfl;have o6:=bP 6 KO.o rfl;have o7:=bP 7 KO.o rfl;have S1:W0.drew.cell? (a_ gw 1)=some (s_ gz zs.length cz)/\W0.drew.cell? (a_ ga 0)=some (I_ kind)/\W0.drew.cell? (a_ ga 1)=some (I_ on)/\W0.drew.cell? (a_ ga 2)=some (I_ a)/\W0.drew.cell? (a_ ga 3)=some (I_ b)/\W0.drew.cell? (a_ ga 4)=some (.string s)/\W0.drew.cell? (a_ ga 5)=some (.slice ae ne ce)/\W0.drew.cell? (a_ ga 6)=some (.slice ar nr cr)/\W0.drew.cell? (a_ ga 7)=some (.slice ac nc cc)/\W0.drew.cell? (a_ gz (k*2))=some (p_ x.g)/\W0.drew.cell? (a_ gz (k*2+1))=some (p_ x.gs):=⟨c1,o0,o1,o2,o3,o4,o5,o6,o7,bT H0.o.q.sc (uC hx).1,bT H0.o.q.sc (uC hx).2⟩;have Ij:=jg k;have ik2:(k:Int)<zs.length:=by omega
   have vJ:Hid (∀w' E2 Ag D ts' n' Ha FU,Kept gd W0.drew w'->WI (N+s.size) gw gd iG (zs.set k { x with E:=E2,E':=Ag,C:=D }) ts' n' (.slice ai iG.length ci) (s_ gz zs.length cz) Ha FU w'->w'.cell? (a_ gw 1)=some (s_ gz zs.length cz)/\w'.cell? (a_ ga 0)=some (I_ kind)/\w'.cell? (a_ ga 1)=some (I_ on)/\w'.cell? (a_ ga 2)=some (I_ a)/\w'.cell? (a_ ga 3)=some (I_ b)/\w'.cell? (a_ ga 4)=some (.string s)/\w'.cell? (a_ ga 5)=some (.slice ae ne ce)/\w'.cell? (a_ ga 6)=some (.slice ar nr cr)/\w'.cell? (a_ ga 7)=some (.slice ac nc cc)/\w'.cell? (a_ gz (k*2))=some (p_ x.g)/\w'.cell? (a_ gz (k*2+1))=some (p_ x.gs)):=fun w' E2 Ag D ts' n' Ha FU hop hW=>by have kb:=hop.op ga _ KO.o;have sc:=hW.q.sc;rw [LU zs k x { x with E:=E2,E':=Ag,C:=D } hx rfl rfl,le_] at sc;exact⟨bM (j:=1) hW.q.w rfl,bM (j:=0) kb rfl,bM (j:=1) kb rfl,bM (j:=2) kb rfl,bM (j:=3) kb rfl,bM (j:=4) kb rfl,bM (j:=5) kb rfl,bM (j:=6) kb rfl,bM (j:=7) kb rfl,bT sc (uC hx).1,bT sc (uC hx).2⟩
   clear hx hk;have q34:Hid ((kind == 3 || kind == 4)=true):=by show _=_;simp;omega
   rcases k34 with k3 | k4
   focus
    subst k3
    go_wp2_with fail
    clear c0 c1 o0 o1 o2 o3 o4 o5 o6 o7
    go_region_held3 (fun w'=>w'.cell? (a_ gw 1)=some (s_ gz zs.length cz)/\w'.cell? (a_ ga 0)=some (I_ 3)/\w'.cell? (a_ ga 1)=some (I_ on)/\w'.cell? (a_ ga 2)=some (I_ a)/\w'.cell? (a_ ga 3)=some (I_ b)/\w'.cell? (a_ ga 4)=some (.string s)/\w'.cell? (a_ ga 5)=some (.slice ae ne ce)/\w'.cell? (a_ ga 6)=some (.slice ar nr cr)/\w'.cell? (a_ ga 7)=some (.slice ac nc cc)/\w'.cell? (a_ gz (k*2))=some (p_ x.g)/\w'.cell? (a_ gz (k*2+1))=some (p_ x.gs)) (first | assumption | exact vJ.o _ _ _ _ _ _ _ _ hop hWI) (first | (go_at_call 17;refine (PICK.o _).mono ?_;rintro e w' ⟨rfl,rfl⟩) | (go_at_call 18;refine FD.o.mono ?_;rintro e w' ⟨rfl,hop,E2,Ag,D,t,Ha,FU,hcap,hWI⟩))
   rotate_left
   focus
    subst k4
    go_wp2_with fail
    clear c0 c1 o0 o1 o2 o3 o4 o5 o6 o7
    go_region_held3 (fun w'=>w'.cell? (a_ gw 1)=some (s_ gz zs.length cz)/\w'.cell? (a_ ga 0)=some (I_ 4)/\w'.cell? (a_ ga 1)=some (I_ on)/\w'.cell? (a_ ga 2)=some (I_ a)/\w'.cell? (a_ ga 3)=some (I_ b)/\w'.cell? (a_ ga 4)=some (.string s)/\w'.cell? (a_ ga 5)=some (.slice ae ne ce)/\w'.cell? (a_ ga 6)=some (.slice ar nr cr)/\w'.cell? (a_ ga 7)=some (.slice ac nc cc)/\w'.cell? (a_ gz (k*2))=some (p_ x.g)/\w'.cell? (a_ gz (k*2+1))=some (p_ x.gs)) (first | assumption | exact vJ.o _ _ _ _ _ _ _ _ hop hWI) (first | (go_at_call 17;refine (PICK.o _).mono ?_;rintro e w' ⟨rfl,rfl⟩) | (go_at_call 18;refine FD.o.mono ?_;rintro e w' ⟨rfl,hop,E2,Ag,D,t,Ha,FU,hcap,hWI⟩))
   all_goals
    have W1:=bK hWI;have HC:=bK hcap;have LB:Hid (Below gd W0 w'):=(Br_ gd W0).drew.trans hop.lo;clear hWI hop hcap vJ FD;go_wp2;go_ret
    exact⟨rfl,LO.o.trans LB.o,_,_,_,_,_,_,_,_,W1.o,by omega,by rw [le_];omega,by simp,⟨by omega,by omega⟩,fun y hy=>by
     rcases ma_.1 hy with h | h
     .exact .inl h
     .simp at h;subst h
      exact .inr HC.o⟩
  .have hz0:=mM (0:Int) (zs.length:Int);rcases k34 with k3 | k4
   .subst k3;go_wp2;go_ret;exact SAME.o _ (Br_ _ _) (GROW.o _ H0.o)
   .subst k4;go_wp2;go_ret;exact SAME.o _ (Br_ _ _) (GROW.o _ H0.o)
 by_cases k2:kind=2
 .subst k2;by_cases hz:0<iG.length
  .have hz1:=nV (0:Int) (iG.length:Int);obtain⟨k,hk,hkl⟩:∃k:Nat,Ty on iG.length=(k:Int)/\k<iG.length:=by have:=Qs on hz;exact⟨(Ty on iG.length).toNat,by omega,by omega⟩
   obtain⟨t,ht⟩:=qG iG k hkl;obtain⟨gi,ci',e,-,-⟩:=dJ H0.o.q.im hz;cases e
   have PICK:Hid (∀W,C_ 17 #[I_ on,I_ iG.length] W (sN (I_ k) W)):=fun W=>by have:=ZU on iG.length W ro (by omega) (by omega);rwa [hk] at this
   have BG:=bK (O4 N gw gd iG zs ts n _ _ jh jb t a b W0.drew (H0.o.below (Below.drew (Br_ W0.heap.size W0))) (mg_ ht) ra rb hzs);have S1:W0.drew.cell? (a_ gw 0)=some (s_ gi iG.length ci)/\W0.drew.cell? (a_ ga 1)=some (I_ on)/\W0.drew.cell? (a_ ga 2)=some (I_ a)/\W0.drew.cell? (a_ ga 3)=some (I_ b)/\W0.drew.cell? (a_ gi (k*2))=some (.string t.s)/\W0.drew.cell? (a_ gi (k*2+1))=some (p_ t.g):=⟨c0,o1,o2,o3,bT H0.o.q.im (zO ht).1,bT H0.o.q.im (zO ht).2⟩;have Ij:=jg k;have ik2:(k:Int)<iG.length:=by omega
   have vJ:Hid (∀w',Kept gd W0.drew w'->((¬((1<=a/\a<=64)/\(0<=b/\b<=8))/\WI N gw gd iG zs ts n (s_ gi iG.length ci) (.slice az zs.length cz) jh jb w')\/(((1<=a/\a<=64)/\(0<=b/\b<=8))/\∃x v2,WI N gw gd iG (zs++[x]) ts n (s_ gi iG.length ci) v2 jh jb w'))->w'.cell? (a_ gw 0)=some (s_ gi iG.length ci)/\w'.cell? (a_ ga 1)=some (I_ on)/\w'.cell? (a_ ga 2)=some (I_ a)/\w'.cell? (a_ ga 3)=some (I_ b)/\w'.cell? (a_ gi (k*2))=some (.string t.s)/\w'.cell? (a_ gi (k*2+1))=some (p_ t.g)):=fun w' hop hcs=>by
    have kb:=hop.op ga _ KO.o;rcases hcs with ⟨_,hW⟩ | ⟨_,x,v2,hW⟩
    all_goals
     exact⟨bM (j:=0) hW.q.w rfl,bM (j:=1) kb rfl,bM (j:=2) kb rfl,bM (j:=3) kb rfl,bT hW.q.im (zO ht).1,bT hW.q.im (zO ht).2⟩
   clear ht hk
   go_wp2_with fail
   clear c0 c1 o0 o1 o2 o3 o4
   go_region_held3 (fun w'=>w'.cell? (a_ gw 0)=some (s_ gi iG.length ci)/\w'.cell? (a_ ga 1)=some (I_ on)/\w'.cell? (a_ ga 2)=some (I_ a)/\w'.cell? (a_ ga 3)=some (I_ b)/\w'.cell? (a_ gi (k*2))=some (.string t.s)/\w'.cell? (a_ gi (k*2+1))=some (p_ t.g)) (first | assumption | exact vJ.o _ hop hcs) (first | (go_at_call 17;refine (PICK.o _).mono ?_;rintro e w' ⟨rfl,rfl⟩) | (go_at_call 16;refine BG.o.mono ?_;rintro e w' ⟨rfl,hop,hcs⟩))
   have HCS:=bK hcs;have LB:Hid (Below gd W0 w'):=(Br_ gd W0).drew.trans hop.lo;clear hcs hop vJ BG;go_wp2;go_ret;rcases HCS.o with ⟨_,hW⟩ | ⟨_,x,v2,hW⟩
   .exact SAME.o _ LB.o (GROW.o _ hW)
   .exact⟨rfl,LO.o.trans LB.o,_,_,_,_,_,_,_,_,GRW.o _ _ _ hW,by omega,by simp,by omega,⟨hn.1,by omega⟩,fun y hy=>.inl hy⟩
  .have hz0:=mM (0:Int) (iG.length:Int);go_wp2;go_ret;exact SAME.o _ (Br_ _ _) (GROW.o _ H0.o)
 have k8:kind=8:=by omega
 subst k8;have CP:=bK (fun W hW=>Gv N gw gd iG zs ts n (.slice ai iG.length ci) (.slice az zs.length cz) jh jb s W hW him HM.o);have GRI:Hid (∀(W:W_) (abY:List Al) (v2:V_),WI N gw gd abY zs ts n v2 (.slice az zs.length cz) jh jb W->WI (N+s.size) gw gd abY zs ts n v2 (.slice az zs.length cz) jh jb W):=fun W abY v2 hW=>hW.grow (by omega)
 go_wp2_with fail
 clear c0 c1 o0 o1 o2 o3 o4;refine (CP.o _ H0.o).mono ?_
 rintro e w' ⟨rfl,hop,hcs⟩;have HCS:=bK hcs;have LB:Hid (Below gd W0 w'):=hop.lo;clear hcs hop CP;go_wp2;go_ret
 rcases HCS.o with hW | ⟨pc,v2,hW⟩
 .exact SAME.o _ LB.o (GROW.o _ hW)
 .exact⟨rfl,LO.o.trans LB.o,_,_,_,_,_,_,_,_,GRI.o _ _ _ hW,by simp,by omega,by omega,⟨hn.1,by omega⟩,fun y hy=>.inl hy⟩
theorem J9 (B:Nat) (v:V_) (xs:List Int) (n:Int) (w:W_) (hv:Bytes B w v xs) (hB:B<=w.heap.size) (hx:xs.length<=1000000) (hn0:0<=n) (hn:n<=65535) :
  C_ 70 #[v,I_ n] w (Xz B (xs++[n % 256,n / 256]) w):=by
 obtain⟨aS,hi,hz0,hz1,hz2⟩:=ip_ Tryz.info5;have HV:=bK hv;clear hv;go_enter Tryz.func70,Tryz.ntmps70
 go_wp2_with (first | (at_builtin;refine wo_ _ rfl (.tmp 5) (.tmp 9) 152 rfl B 5 aS (.int .u8 0) 1 1 Tryz.underlying152 hi hz0 hz1 hz2 rfl (by decide) v xs.length (qy xs) rfl (oa_ HV.o _) (a_ w.heap.size 0) 1 1 (qy [n % 256]) rfl rfl (jJ rfl) (by intro u hu;simp [qy] at hu;subst hu;rfl) (by unfold maxLen;omega) (by omega) (by simp;omega) ?_;intro v1 w1 nZ kN _) | (at_builtin;refine wo_ _ rfl (.tmp 11) (.tmp 15) 152 rfl B 5 aS (.int .u8 0) 1 1 Tryz.underlying152 hi hz0 hz1 hz2 rfl (by decide) v1 (xs.length+1) (qy xs++qy [n % 256]) rfl (oa_ nZ _) (a_ w1.heap.size 0) 1 1 (qy [n / 256]) rfl rfl (jJ rfl) (by intro u hu;simp [qy] at hu;subst hu;rfl) (by unfold maxLen;omega) (by omega) (by have:=kN.size;simp at this |-;omega) ?_;intro v2 w2 dw bS _))
 go_ret
 refine⟨v2,rfl,?_,?_⟩
 .refine Bytes.on (ys:=[n % 256,n / 256]) rfl ?_
  simpa [qy] using dw
 .have hs1:=kN.size;have lt1:=ol_ HV.o;have lt2:=ol_ nZ;refine Below.grown (Below.alloc (Below.grown (Below.alloc (Br_ _ _) hB _) kN (by simp;omega) (fun k hk=>(lt1 k hk).1)) (by simp at hs1;omega) _) bS (by simp at hs1 |-;omega) (fun k hk=>(lt2 k hk).1)
theorem Oq (ve vr vc:V_) (p:oC) (w:W_) (hE:vI w ve p.ents) (hR:qJ w vr p.rules) (hC:Code w vc p.code) (hp:iy p) :
  C_ 33 #[.agg #[ve,vr,vc]] w (XK (vN p) w):=by
 obtain⟨aS,hi,hz0,hz1,hz2⟩:=ip_ Tryz.info5;obtain⟨ae,ce,rfl,he1,he2,rP⟩:=hE.read;obtain⟨ar,cr,rfl,hr1,hr2,pO⟩:=hR.read;obtain⟨ac,cc,rfl,hc1,hc2,mK⟩:=hC.read;clear hE hR hC;have hm:=hp.1.1;have hk:=hp.2.1.1;have hn:=hp.2.2.1.1;have HP:=bK hp;clear hp;go_enter Tryz.func33,Tryz.ntmps33
 go_wp2_with fail
 have lX:B_ w (w.alloc (c_ #[.slice ae p.ents.length ce,.slice ar p.rules.length cr,.slice ac p.code.length cc] 43)):=mi _;have YO:(w.alloc (c_ #[.slice ae p.ents.length ce,.slice ar p.rules.length cr,.slice ac p.code.length cc] 43)).heap.size=w.heap.size+1:=by simp
 have c0:(w.alloc (c_ #[.slice ae p.ents.length ce,.slice ar p.rules.length cr,.slice ac p.code.length cc] 43)).cell? (a_ w.heap.size 0)=some (.slice ae p.ents.length ce):=by simp
 have c1:(w.alloc (c_ #[.slice ae p.ents.length ce,.slice ar p.rules.length cr,.slice ac p.code.length cc] 43)).cell? (a_ w.heap.size 1)=some (.slice ar p.rules.length cr):=by simp
 have c2:(w.alloc (c_ #[.slice ae p.ents.length ce,.slice ar p.rules.length cr,.slice ac p.code.length cc] 43)).cell? (a_ w.heap.size 2)=some (.slice ac p.code.length cc):=by simp
 generalize w.alloc (c_ #[.slice ae p.ents.length ce,.slice ar p.rules.length cr,.slice ac p.code.length cc] 43)=W0 at *;have HS:=bK YO;clear YO;refine (J9 (w.heap.size+1) _ (Ei p) p.code.length _ (acz (by rw [HS.o];exact di) rfl (by simp [Ei]) (by rw [HS.o])) (by have:=HS.o;simp;omega) (by simp [Ei]) (by omega) (by omega)).mono ?_
 rintro e w1 ⟨vb,rfl,hby,hB1⟩;have adq:Below (w.heap.size+1) W0 w1:=((Br_ _ _).alloc (by rw [HS.o];exact di) _).trans hB1;have Xj:Hid (Bytes (w.heap.size+1) w1 vb (bq p 0)):=by show Bytes _ _ _ _;rw [TZ];exact hby
 clear hby hB1
 go_wp2_with fail
 go_loopw [3,4] (fun b i wr=>∃(k:Nat) (b':V_),k<=p.ents.length/\i=I_ k/\b'=b/\Below (w.heap.size+1) W0 wr/\Bytes (w.heap.size+1) wr b' (bq p k)) (fun _ i _=>p.ents.length-(intOf i).toNat)
 case atStart=>exact⟨0,_,zl_ _,rfl,rfl,adq,Xj.o⟩
 case round=>
  clear Xj adq;obtain⟨k,b,hk',rfl,rfl,hbel,hby⟩:=hrel;have hsz:=hbel.size;rw [HS.o] at hsz;have aW:=(hbel.cell (p:=(a_ w.heap.size 0)) (by simp)).trans c0;by_cases hlt:k<p.ents.length
  .obtain⟨b',off,rfl,hb,e0⟩:=rP k hlt;have g0:=(hbel.cell (p:=(a_ b' (off+k))) (by simp;omega)).trans ((lX.cell (p:=(a_ b' (off+k))) hb).trans e0);have hbd:=Bf HP.o hlt;have hln:=Rn p k hk';have Xk:=bK hln;clear rP pO mK e0 hln;have Xj:=bK hby;clear hby
   go_wp2_with fail
   refine (J9 (w.heap.size+1) _ (bq p k) (Pu.aU p.ents k) _ Xj.o hsz (by rw [Xk.o];omega) hbd.1 hbd.2).mono ?_
   rintro e w2 ⟨v2,rfl,agS,hB2⟩;have nY:=hbel.trans hB2;rw [<-TY p k hlt] at agS;clear hB2 g0 aW Xj;go_wp2
   go_roundw
   case rel=>exact⟨k+1,_,by omega,by go_num,rfl,nY,agS⟩
   case measure=>simp [intOf];omega
  .have hke:k=p.ents.length:=by omega
   subst hke;have Xj:Hid (Bytes (w.heap.size+1) wr b (bC p 0)):=by show Bytes _ _ _ _;rw [Ua];exact hby
   clear hby rP hlt hk'
   go_wp2_with fail
   clear aW
   go_loopw [3,5] (fun b i wr=>∃(k:Nat) (b':V_),k<=p.rules.length/\i=I_ k/\b'=b/\Below (w.heap.size+1) W0 wr/\Bytes (w.heap.size+1) wr b' (bC p k)) (fun _ i _=>p.rules.length-(intOf i).toNat)
   case atStart=>exact⟨0,_,zl_ _,rfl,rfl,hbel,Xj.o⟩
   case round=>
    clear Xj hbel hsz;obtain⟨k,b,hk',rfl,rfl,hbel,hby⟩:=hrel;have hsz:=hbel.size;rw [HS.o] at hsz;have q1:=(hbel.cell (p:=(a_ w.heap.size 1)) (by simp)).trans c1;by_cases hlt:k<p.rules.length
    .obtain⟨b',off,rfl,hb,e0,e1,e2⟩:=pO k hlt;have g0:=(hbel.cell (p:=(a_ b' (off+k*3))) (by simp;omega)).trans ((lX.cell (p:=(a_ b' (off+k*3))) hb).trans e0);have g1:=(hbel.cell (p:=(a_ b' (off+k*3+1))) (by simp;omega)).trans ((lX.cell (p:=(a_ b' (off+k*3+1))) hb).trans e1);have g2:=(hbel.cell (p:=(a_ b' (off+k*3+2))) (by simp;omega)).trans ((lX.cell (p:=(a_ b' (off+k*3+2))) hb).trans e2);obtain⟨hx0,hx1,hx2⟩:=yM HP.o hlt;have hst:=T9 p k hlt;have HST:=bK hst;clear hst;have hln:=Ro p k hk';generalize Pu.rg p.rules k=r at *;obtain⟨re,ra,rm⟩:=r;simp only at g0 g1 g2 hx0 hx1 hx2 HST;clear pO mK e0 e1 e2;have s0:aN (w.heap.size+1) W0 (wr.alloc (c_ #[I_ re,I_ ra,I_ rm] 59)) b (bC p k) wr.heap.size #[I_ re,I_ ra,I_ rm] 59:=⟨hbel.alloc hsz _,oa_ hby _,hn_ _ _,by simp;omega⟩;generalize hxs:bC p k=xs at *;clear hxs hby;have hxl:xs.length<=1000:=by omega
     have S0:=bK s0;clear s0 hln
     go_wp2_with (first | (at_builtin;refine wo_ _ rfl (.tmp 49) (.tmp 53) 152 rfl (w.heap.size+1) 5 aS (.int .u8 0) 1 1 Tryz.underlying152 hi hz0 hz1 hz2 rfl (by decide) b (xs).length (qy (xs)) rfl (oa_ S0.o.byt _) (a_ (wr.heap.size+1) 0) 1 1 (qy [re]) rfl rfl (jJ (by simp)) (by intro u hu;simp [qy] at hu;subst hu;rfl) (by unfold maxLen;simp;omega) (by simp;omega) (by have:=S0.o.sz;simp;omega) ?_;intro v1 w1 fH lT _;have s1:=S0.o.app (by decide) rfl fH lT;clear fH lT;have d1:=lC (j:=1) s1.loc rfl;have d1':=lC (j:=2) s1.loc rfl) | (at_builtin;refine wo_ _ rfl (.tmp 55) (.tmp 59) 152 rfl (w.heap.size+1) 5 aS (.int .u8 0) 1 1 Tryz.underlying152 hi hz0 hz1 hz2 rfl (by decide) v1 (xs++[re]).length (qy (xs++[re])) rfl (oa_ s1.byt _) (a_ w1.heap.size 0) 1 1 (qy [ra]) rfl rfl (jJ (by simp)) (by intro u hu;simp [qy] at hu;subst hu;rfl) (by unfold maxLen;simp;omega) (by simp;omega) (by have:=s1.sz;simp;omega) ?_;intro v2 w2 fH lT _;have s2:=s1.app (by decide) rfl fH lT;clear fH lT;have d2:=lC (j:=2) s2.loc rfl) | (at_builtin;refine wo_ _ rfl (.tmp 61) (.tmp 65) 152 rfl (w.heap.size+1) 5 aS (.int .u8 0) 1 1 Tryz.underlying152 hi hz0 hz1 hz2 rfl (by decide) v2 (xs++[re]++[ra]).length (qy (xs++[re]++[ra])) rfl (oa_ s2.byt _) (a_ w2.heap.size 0) 1 1 (qy [rm]) rfl rfl (jJ (by simp)) (by intro u hu;simp [qy] at hu;subst hu;rfl) (by unfold maxLen;simp;omega) (by simp;omega) (by have:=s2.sz;simp;omega) ?_;intro v3 w3 fH lT _;have s3:=s2.app (by decide) rfl fH lT;clear fH lT))
     go_roundw
     case rel=>exact⟨k+1,_,by omega,by go_num,rfl,s3.uo,by have:=s3.byt;rw [HST.o];simpa using this⟩
     case measure=>simp [intOf];omega
    .have hke:k=p.rules.length:=by omega
     subst hke;have Xj:Hid (Bytes (w.heap.size+1) wr b (bD p 0)):=by show Bytes _ _ _ _;rw [Uc];exact hby
     clear hby pO hlt hk'
     go_wp2_with fail
     clear q1
     go_loopw [3,7] (fun b i wr=>∃(k:Nat) (b':V_),k<=p.code.length/\i=I_ k/\b'=b/\Below (w.heap.size+1) W0 wr/\Bytes (w.heap.size+1) wr b' (bD p k)) (fun _ i _=>p.code.length-(intOf i).toNat)
     case atStart=>exact⟨0,_,zl_ _,rfl,rfl,hbel,Xj.o⟩
     case round=>
      clear Xj hbel hsz;obtain⟨k,b,hk',rfl,rfl,hbel,hby⟩:=hrel;have hsz:=hbel.size;rw [HS.o] at hsz;have q2:=(hbel.cell (p:=(a_ w.heap.size 2)) (by simp)).trans c2;by_cases hlt:k<p.code.length
      .obtain⟨b',off,rfl,hb,e0,e1,e2,e3⟩:=mK k hlt;have g0:=(hbel.cell (p:=(a_ b' (off+k*4))) (by simp;omega)).trans ((lX.cell (p:=(a_ b' (off+k*4))) hb).trans e0);have g1:=(hbel.cell (p:=(a_ b' (off+k*4+1))) (by simp;omega)).trans ((lX.cell (p:=(a_ b' (off+k*4+1))) hb).trans e1);have g2:=(hbel.cell (p:=(a_ b' (off+k*4+2))) (by simp;omega)).trans ((lX.cell (p:=(a_ b' (off+k*4+2))) hb).trans e2);have g3:=(hbel.cell (p:=(a_ b' (off+k*4+3))) (by simp;omega)).trans ((lX.cell (p:=(a_ b' (off+k*4+3))) hb).trans e3);obtain⟨hx0,hx1,hx2,hx3⟩:=Bg HP.o hlt;have hst:=Ub p k hlt;have HST:=bK hst;clear hst;have hln:=FY p k hk';generalize Pu.aO p.code k=r at *;obtain⟨xo,xa,xb,xt⟩:=r;simp only at g0 g1 g2 g3 hx0 hx1 hx2 hx3 HST;clear mK e0 e1 e2 e3;have s0:aN (w.heap.size+1) W0 (wr.alloc (c_ #[I_ xo,I_ xa,I_ xb,I_ xt] 61)) b (bD p k) wr.heap.size #[I_ xo,I_ xa,I_ xb,I_ xt] 61:=⟨hbel.alloc hsz _,oa_ hby _,hn_ _ _,by simp;omega⟩;generalize hxs:bD p k=xs at *;clear hxs hby;have hxl:xs.length<=300000:=by omega
       have S0:=bK s0;clear s0 hln
       go_wp2_with (first | (at_builtin;refine wo_ _ rfl (.tmp 79) (.tmp 83) 152 rfl (w.heap.size+1) 5 aS (.int .u8 0) 1 1 Tryz.underlying152 hi hz0 hz1 hz2 rfl (by decide) b (xs).length (qy (xs)) rfl (oa_ S0.o.byt _) (a_ (wr.heap.size+1) 0) 1 1 (qy [xo]) rfl rfl (jJ (by simp)) (by intro u hu;simp [qy] at hu;subst hu;rfl) (by unfold maxLen;simp;omega) (by simp;omega) (by have:=S0.o.sz;simp;omega) ?_;intro v1 w1 fH lT _;have s1:=S0.o.app (by decide) rfl fH lT;clear fH lT;have d1:=lC (j:=1) s1.loc rfl) | (at_builtin;refine wo_ _ rfl (.tmp 85) (.tmp 89) 152 rfl (w.heap.size+1) 5 aS (.int .u8 0) 1 1 Tryz.underlying152 hi hz0 hz1 hz2 rfl (by decide) v1 (xs++[xo]).length (qy (xs++[xo])) rfl (oa_ s1.byt _) (a_ w1.heap.size 0) 1 1 (qy [xa]) rfl rfl (jJ (by simp)) (by intro u hu;simp [qy] at hu;subst hu;rfl) (by unfold maxLen;simp;omega) (by simp;omega) (by have:=s1.sz;simp;omega) ?_;intro v2 w2 fH lT _;have s2:=s1.app (by decide) rfl fH lT;clear fH lT;have d2:=lC (j:=2) s2.loc rfl) | (at_builtin;refine wo_ _ rfl (.tmp 91) (.tmp 95) 152 rfl (w.heap.size+1) 5 aS (.int .u8 0) 1 1 Tryz.underlying152 hi hz0 hz1 hz2 rfl (by decide) v2 (xs++[xo]++[xa]).length (qy (xs++[xo]++[xa])) rfl (oa_ s2.byt _) (a_ w2.heap.size 0) 1 1 (qy [xb]) rfl rfl (jJ (by simp)) (by intro u hu;simp [qy] at hu;subst hu;rfl) (by unfold maxLen;simp;omega) (by simp;omega) (by have:=s2.sz;simp;omega) ?_;intro v3 w3 fH lT _;have s3:=s2.app (by decide) rfl fH lT;clear fH lT;have d3:=lC (j:=3) s3.loc rfl))
       refine (J9 (w.heap.size+1) _ (xs++[xo]++[xa]++[xb]) xt _ s3.byt s3.sz (by simp;omega) hx3.1 hx3.2).mono ?_
       rintro e w4 ⟨v4,rfl,aj0,hB4⟩;have zz:=s3.uo.trans hB4;clear hB4 s1 s2 s3 d1 d2 d3;go_wp2
       go_roundw
       case rel=>exact⟨k+1,_,by omega,by go_num,rfl,zz,by rw [HST.o];simpa using aj0⟩
       case measure=>simp [intOf];omega
      .have hke:k=p.code.length:=by omega
       subst hke;have hln:=FY p p.code.length di;obtain⟨g,cap,rfl,hcv⟩:=hby.str (by omega);clear hby mK hlt hk' hln;go_wp2;go_ret;exact⟨rfl,lX.trans (hbel.mono (by omega))⟩
def adW (p:oC) (s:Y_) (c:Int):Prop:=(iy p/\s=strOfNums (vN p)/\c=0)\/(¬iy p/\s=⟨#[]⟩/\c=1)
def abd (p:oC) (w:W_) (e:Ending) (w':W_):Prop:=∃s c,e=.returned (.tuple #[.string s,I_ c])/\B_ w w'/\adW p s c
theorem Ny (ve vr vc:V_) (p:oC) (w:W_) (hE:vI w ve p.ents) (hR:qJ w vr p.rules) (hC:Code w vc p.code) :
  C_ 15 #[.agg #[ve,vr,vc]] w (abd p w):=by
 obtain⟨ae,ce,rfl,he1,he2⟩:=hE.form;obtain⟨ar,cr,rfl,hr1,hr2⟩:=hR.form;obtain⟨ac,cc,rfl,hc1,hc2⟩:=hC.form;have HE:=bK hE;have HR:=bK hR;have HC:=bK hC;clear hE hR hC;have HB0:=bK ((Br_ w.heap.size w).alloc di (c_ #[.slice ae p.ents.length ce,.slice ar p.rules.length cr,.slice ac p.code.length cc] 43));go_enter Tryz.func15,Tryz.ntmps15
 go_wp2_with fail
 refine (zQ _ _ _ p _ (HE.o.below HB0.o) (HR.o.below HB0.o) (HC.o.below HB0.o)).mono ?_
 rintro e w1 ⟨b1,rfl,hb1,hB1⟩;have iE:=Gr (Br_ _ _) hB1;have hc1':=(R9 hB1).1;cases b1
 .go_wp2
  go_ret2
  exact⟨_,_,rfl,iE,.inr ⟨fun h=>Bool.noConfusion (hb1.2 h),rfl,rfl⟩⟩
 have HP:=bK (hb1.1 rfl);clear hb1
 go_wp2_with fail
 refine (Oq _ _ _ p _ (HE.o.below iE) (HR.o.below iE) (HC.o.below iE) HP.o).mono ?_
 rintro e w2 ⟨rfl,hB2⟩;have nY:=iT iE hB2;go_wp2
 go_ret2
 exact⟨_,_,rfl,nY,.inl ⟨HP.o,rfl,rfl⟩⟩
end Go.Proofs.YtmccnmgaoppogaaGreat
