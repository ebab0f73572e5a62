import Derived.Test.YtmccnmgaoppogabGreatuKay
import Derived.Lib.ConvBytes
namespace Go.Proofs.YtmccnmgaoppogabGreat
open Pu
set_option linter.all false
open Go.Proofs.Tryz Tryz
set_option maxRecDepth 100000
set_option maxHeartbeats 8000000
open Go.RowKit
variable {E:bI} {f:Nat->Int} {C D F:bJ} {g:Nat} {vc ve vh vr vt:V_} {W W' w:W_} {depth fault:Int} {T:List bK} {ops:Array Oper}
def shut(ended:Bool)(fault:Int):Int:=if fault≠0 then fault else if ended then 8 else 0
def rV(v:V_)(w:W_)(e:Ending)(w':W_):Prop:=e=.returned v/\w'=w
def Al(v:V_)(w:W_)(e:Ending)(w':W_):Prop:=e=.returned v/\B_ w w'
def adC(v:V_)(w:W_)(e:Ending)(w':W_):Prop:=e=.returned v/\∃n,w'=w.drewN n
theorem wJ(g:Nat)(E:bI)(ve vr vc vh:V_)(C:bJ)(fault:Int)(w:W_)(m:kP w g E ve vr vc vh C fault) :
  C_ 80 #[p_ g] w (rV (I_ (shut E.ended fault)) w):=by
 have a:=m.cell (j:=25) rfl;have c:=m.cell (j:=26) rfl;clear m;by_cases b:fault=0
 .subst b;cases hE:E.ended;all_goals
   rw[hE]at a;go_enter func80,ntmps80;go_wp2;go_ret;exact⟨by simp[shut],rfl⟩
 .have d:(fault != 0)=true:=by simpa using b
  go_enter func80,ntmps80;go_wp2;go_ret;exact⟨by simp[shut,b],rfl⟩
theorem Zd(g:Nat)(E:bI)(ve vr vc vh:V_)(C:bJ)(fault:Int)(w:W_)(m:kP w g E ve vr vc vh C fault) :
  Calls prog 114 #[p_ g] w (Al (.agg #[I_ C.rule,I_ C.pos,I_ C.marked,I_ C.line,I_ C.iU]) w):=by
 have k:=m.cell (j:=5) rfl;have l:=m.cell (j:=6) rfl;have n:=m.cell (j:=7) rfl;have b:=m.cell (j:=22) rfl;have c:=m.cell (j:=23) rfl;have e:=bP m.fB;have i:g≠w.heap.size:=o_;clear m;have d:=bL ((Br_ w.heap.size w).alloc dF (c_ #[I_ C.rule,I_ C.pos,I_ C.marked,I_ C.line,I_ C.iU] 67));go_in;go_wp2_with fail;go_region_held3 (fun a=>a.cell? (a_ g 5)=some (I_ C.pos)/\a.cell? (a_ g 6)=some (I_ C.line)/\a.cell? (a_ g 7)=some (I_ C.iU)/\a.cell? (a_ g 22)=some (I_ C.rule)/\a.cell? (a_ g 23)=some (I_ C.marked)) (go_keep) (fail);all_goals go_wp2
 all_goals exact br_ (v:=.agg #[I_ C.rule,I_ C.pos,I_ C.marked,I_ C.line,I_ C.iU]) (by simp[results,results114,go_sem]) rfl ⟨rfl,d.o.drew⟩
theorem Mw(g:Nat)(E:bI)(ve vr vc:V_)(c:Option Addr)(b d:Nat)(C:bJ)(fault:Int)(w:W_)(m:kP w g E ve vr vc (.slice c b d) C fault)(e:b<=9223372036854775807) :
  Calls prog 65 #[p_ g] w (Al (.agg #[I_ C.pos,I_ C.line,I_ C.iU,I_ C.mode,I_ C.jy,I_ b,I_ C.steps]) w):=by
 have r:=m.cell (j:=5) rfl;have s:=m.cell (j:=6) rfl;have t:=m.cell (j:=7) rfl;have u:=m.cell (j:=8) rfl;have i:=m.cell (j:=17) rfl;have k:=m.cell (j:=18) rfl;have l:=m.cell (j:=24) rfl;have p:=bP m.fB;have q:g≠w.heap.size:=o_;clear m;have n:=bL ((Br_ w.heap.size w).alloc dF (c_ #[I_ C.pos,I_ C.line,I_ C.iU,I_ C.mode,I_ C.jy,I_ b,I_ C.steps] 102));go_in;go_wp2_with fail;go_region_held3 (fun a=>a.cell? (a_ g 5)=some (I_ C.pos)/\a.cell? (a_ g 6)=some (I_ C.line)/\a.cell? (a_ g 7)=some (I_ C.iU)/\a.cell? (a_ g 8)=some (I_ C.mode)/\a.cell? (a_ g 17)=some (I_ C.jy)/\a.cell? (a_ g 24)=some (.slice c b d)/\a.cell? (a_ g 18)=some (I_ C.steps)) (go_keep) (fail);all_goals go_wp2
 all_goals exact br_ (v:=.agg #[I_ C.pos,I_ C.line,I_ C.iU,I_ C.mode,I_ C.jy,I_ b,I_ C.steps]) (by simp[results,results65,go_sem]) rfl ⟨rfl,n.o.drew⟩
theorem Y0(g:Nat)(E:bI)(ve vr vc:V_)(d:Option Addr)(c i:Nat)(C:bJ)(fault:Int)(w:W_)(m:kP w g E ve vr vc (.slice d c i) C fault)(n:c<=9223372036854775807) :
  Calls prog 42 #[p_ g] w (Al (.agg #[I_ C.pos,I_ C.line,I_ C.iU,I_ C.mode,I_ C.jy,I_ c,I_ C.steps]) w):=by
 have M:=bL (m.alloc (c_ #[I_ 0,I_ 0,I_ 0,I_ 0,I_ 0,I_ 0,I_ 0] 102));have l:=bL ((Br_ w.heap.size w).alloc dF (c_ #[I_ 0,I_ 0,I_ 0,I_ 0,I_ 0,I_ 0,I_ 0] 102));clear m;go_in;go_wp2_with fail;refine (Mw g E ve vr vc d c i C fault _ M.o n).mono ?_;rintro e j ⟨rfl,b⟩;have k:=l.o.trans (b.mono i_);have J:w.heap.size<j.heap.size:=by have:=b.size;simp at this;omega
 have a:dh j w.heap.size 102 [I_ 0,I_ 0,I_ 0,I_ 0,I_ 0,I_ 0,I_ 0]:=bO (hn_ w (c_ #[I_ 0,I_ 0,I_ 0,I_ 0,I_ 0,I_ 0,I_ 0] 102)) b i_;have p:=bQ 0 a rfl;have q:=bQ 1 a rfl;have r:=bQ 2 a rfl;have s:=bQ 3 a rfl;have t:=bQ 4 a rfl;have u:=bQ 5 a rfl;have x:=bQ 6 a rfl;have y:=bM a 0;have z:=bM a 1;have A:=bM a 2;have B:=bM a 3;have G:=bM a 4;have H:=bM a 5;have I:=bM a 6;clear a b;go_wp2;refine br_ (v:=.agg #[I_ C.pos,I_ C.line,I_ C.iU,I_ C.mode,I_ C.jy,I_ c,I_ C.steps]) (by simp[results,results42,go_sem,p,q,r,s,t,u,x]) rfl ⟨rfl,?_⟩;exact ((((((k.setCell dF _).setCell dF _).setCell dF _).setCell dF _).setCell dF _).setCell dF _).setCell dF _
theorem Xr(g:Nat)(E:bI)(ve vr vc vh:V_)(C:bJ)(fault:Int)(w:W_)(m:kP w g E ve vr vc vh C fault)(x:gu E.p)(l:0<=C.rule/\C.rule<E.p.rules.length) :
  C_ 113 #[p_ g] w (adC (I_ (Pu.wrong E.p E.depth C)) w):=by
 obtain⟨-,⟨J,G,rfl,y,z⟩,-⟩:=m.l.Qs x;have A:=m.cell (j:=1) rfl;have B:=m.cell (j:=4) rfl;have t:=m.cell (j:=17) rfl;have d:=m.cell (j:=22) rfl;have u:=m.cell (j:=23) rfl;have q:=GM m.l.r (i:=C.rule.toNat) o_;have s:=q.2.1;have a:Hid (Pu.wrong E.p E.depth C=if C.marked=0 then 4 else if (Pu.rg E.p.rules C.rule.toNat).act=2/\E.depth<=C.jy then 6 else if (Pu.rg E.p.rules C.rule.toNat).act=3/\C.jy=0 then 7 else 0):=rfl;obtain⟨k,b⟩:=Int.eq_ofNat_of_zero_le l.1;rw[b]at d s l a;rw[a.o];rw[tn_]at s |-
 have v:k<E.p.rules.length:=o_;clear q m b a l;generalize (Pu.rg E.p.rules k).act=a at *;generalize E.p.rules.length=K at *;generalize C.marked=mk at *;generalize C.jy=b at *;generalize E.depth=n at *;by_cases p:mk=0
 .subst p;go_enter func113,ntmps113;go_wp2;go_ret;exact⟨i_,0,rfl⟩
 have H:(mk == 0)=false:=by simpa using p
 by_cases q:a=2
 .subst q;by_cases c:n<=b;rotate_left;focus have e:decide (n<=b)=false:=by simpa using c
  all_goals
   go_enter func113,ntmps113;go_wp2_with fail;go_quiet (fail);go_wp2_with fail;go_quiet (fail);go_wp2;go_ret;exact⟨i_,_,rfl⟩
 have I:(a == 2)=false:=by simpa using q
 by_cases r:a=3
 .subst r;by_cases c:b=0;subst c;rotate_left;focus have e:(b == 0)=false:=by simpa using c
  all_goals
   go_enter func113,ntmps113;go_wp2_with fail;go_quiet (fail);go_wp2;go_ret;exact⟨i_,_,rfl⟩
 have c:(a == 3)=false:=by simpa using r
 go_enter func113,ntmps113;go_wp2_with fail;go_quiet (fail);go_wp2;go_ret;exact⟨i_,_,rfl⟩
def aiJ(v:V_)(g:Nat)(E:bI)(ve vr vc vh:V_)(C:bJ)(fault:Int)(w:W_)(e:Ending)(w':W_):Prop:=
 e=.returned v/\kP w' g E ve vr vc vh C fault/\w.grownBy w' (some g)
def tY(b:Y_)(k:Nat)(C:bJ):bJ:={ C with pos:=C.pos+k,line:=(qO b 0 k (C.line,C.iU)).1,iU:=(qO b 0 k (C.line,C.iU)).2 }
theorem acf(g:Nat)(E:bI)(ve vr vc vh:V_)(C:bJ)(fault:Int)(b:Y_)(w:W_)(m:kP w g E ve vr vc vh C fault)
  (H:0<=C.pos/\C.pos<=1125899906842624) (u:1<=C.line/\C.line<=1125899906842624) (s:1<=C.iU/\C.iU<=1125899906842624) (B:b.size<=1125899906842624) :
  Calls prog 115 #[p_ g,.string b] w (aiJ (.tuple #[]) g E ve vr vc vh (tY b b.size C) fault w):=by
 have M:=bL m;clear m;go_in;go_wp2_with fail;go_loopw [4] (fun i wr=>∃k:Nat,k<=b.size/\i=I_ k/\kP wr g E ve vr vc vh (tY b k C) fault/\w.grownBy wr (some g)) (fun i _=>b.size-(intOf i).toNat);case atStart=>exact⟨0,zl_ _,rfl,by
  have:tY b 0 C=C:=by simp[tY,qO]
  rw[this];exact M.o,⟨rfl,rfl,rfl,dF,fun _ _ _=>rfl⟩⟩
 case round=>
  clear M;obtain⟨k,G,rfl,a,d⟩:=hrel;by_cases i:k<b.size
  .have I:=fun w=>eB b (k:Int) k rfl i w;have n:=a.cell (j:=5) rfl;have p:=a.cell (j:=6) rfl;have q:=a.cell (j:=7) rfl;have x:=a.frozen 5;have z:=a.frozen 6;have A:=a.frozen 7;have r:=KE b 0 k (C.line,C.iU) u.1 s.1;simp only at r;have t:(k:Int)<b.size:=o_;have c:Hid (kP wr g E ve vr vc vh { C with pos:=C.pos+k,line:=(qO b 0 k (C.line,C.iU)).1,iU:=(qO b 0 k (C.line,C.iU)).2 } fault/\w.grownBy wr (some g)):=And.intro a d;have l:Hid (tY b (k+1) C={ C with pos:=C.pos+k+1,line:=if bt b k=10 then (qO b 0 k (C.line,C.iU)).1+1 else (qO b 0 k (C.line,C.iU)).1,iU:=if bt b k=10 then 1 else (qO b 0 k (C.line,C.iU)).2+1 }):=by
    show tY b (k+1) C=_;unfold tY;simp only[qO,Nat.zero_add];have e:C.pos+((k+1:Nat):Int)=C.pos+k+1:=o_;rw[e];by_cases h:bt b k=10
    .simp only[if_pos h]
    .simp only[if_neg h]
   clear a d;unfold tY at n p q;simp only at n p q;generalize (qO b 0 k (C.line,C.iU)).1=L at *;generalize (qO b 0 k (C.line,C.iU)).2=K at *;generalize bt b k=y at *;by_cases e:y=10
   .subst e;go_wp2;go_roundw;case rel=>
     refine⟨k+1,o_,by go_num,?_,?_⟩
     .rw [l.o,if_pos rfl,if_pos rfl];exact (((c.o.1.set 5 (I_ (C.pos+k+1)) E rfl (D:={ C with pos:=C.pos+k+1,line:=L,iU:=K }) rfl).set 7 (I_ (K+1)) E rfl (D:={ C with pos:=C.pos+k+1,line:=L,iU:=K+1 }) rfl).set 6 (I_ (L+1)) E rfl (D:={ C with pos:=C.pos+k+1,line:=L+1,iU:=K+1 }) rfl).set 7 (I_ 1) E rfl rfl
     .exact eU (eU (eU (eU c.o.2 _ _) _ _) _ _) _ _
    case measure=>simp[intOf];omega
   .have v:(y == 10)=false:=by simpa using e
    go_wp2;go_roundw;case rel=>
     refine⟨k+1,o_,by go_num,?_,?_⟩
     .rw [l.o,if_neg e,if_neg e];exact (c.o.1.set 5 (I_ (C.pos+k+1)) E rfl (D:={ C with pos:=C.pos+k+1,line:=L,iU:=K }) rfl).set 7 (I_ (K+1)) E rfl rfl
     .exact eU (eU c.o.2 _ _) _ _
    case measure=>simp[intOf];omega
  .have e:k=b.size:=o_;subst e;have c:=bL (And.intro a d);clear a d;go_wp2;go_end0;exact⟨rfl,c.o.1,c.o.2⟩
def xI(r:mg)(C:bJ):bJ:={ C with mode:=gH r C,lN:=mI r C,jy:=ny r C }
theorem adP(g:Nat)(E:bI)(ve vr vc vh:V_)(C:bJ)(fault:Int)(r:mg)(w:W_)(m:kP w g E ve vr vc vh C fault)
  (N:C.lN.length=8) (B:0<=C.jy/\C.jy<=8) (t:r.act=2->C.jy<8) (u:r.act=3->0<C.jy) :
  C_ 116 #[p_ g,.agg #[I_ r.emit,I_ r.act,I_ r.mode]] w (aiJ (.tuple #[]) g E ve vr vc vh (xI r C) fault w):=by
 obtain⟨x,a,md⟩:=r;simp only at *;obtain⟨d,b⟩:=Int.eq_ofNat_of_zero_le B.1;have O:=bP m.fB;have Q:g≠w.heap.size:=o_;have G:w.heap.size≠g:=o_;have V:=m.cell (j:=8) rfl;have s:=m.cell (j:=17) rfl;have Z:=m.frozen 8;have J:=m.frozen 17;rw[b]at s B t u;have v:Hid (w.grownBy w (some g)):=⟨rfl,rfl,rfl,dF,fun _ _ _=>rfl⟩;have p:=bL m;by_cases y:a=1
 .subst y;have c:Hid (xI ⟨x,1,md⟩ C={ C with mode:=md }):=by show _=_;simp[xI,gH,mI,ny]
  rw[c.o];clear m b c;go_enter func116,ntmps116;go_wp2;go_end0;exact⟨rfl,(p.o.set 8 (I_ md) E rfl rfl).alloc _,jY (eU v.o _ _) _⟩
 have X:(a == 1)=false:=by simpa using y
 by_cases i:a=2
 .subst i;have k:=t rfl;have n:d<8:=o_;have l:=m.frozen (9+d);have n1:¬(17=9+d):=o_;have R:¬(8=9+d):=o_;have S:¬(9+d=17):=o_;have U:¬(9+d=8):=o_;have H:=m.cell (j:=9+d) (sH n);have c:Hid (xI ⟨x,2,md⟩ C={ C with mode:=md,lN:=C.lN.set d C.mode,jy:=d+1 }):=by show _=_;simp[xI,gH,mI,ny,b]
  rw[c.o];have e:=bL (p.o.set (9+d) (I_ C.mode) E rfl (IY n N _));have q:Hid (∀o,((w.setCell (a_ g (9+d)) (I_ C.mode)).alloc o).cell? (a_ g 17)=some (I_ d)/\((w.setCell (a_ g (9+d)) (I_ C.mode)).alloc o).cell? (a_ g 8)=some (I_ C.mode)):=fun o=>⟨(e.o.alloc o).cell (j:=17) (by show some (I_ C.jy)=_;rw[b]),(e.o.alloc o).cell (j:=8) rfl⟩;clear m b c t u;go_enter func116,ntmps116;go_wp2_with fail;go_region_held3 (fun c=>c.cell? (a_ g 17)=some (I_ d)/\c.cell? (a_ g 8)=some (I_ C.mode)) (first | exact q.o _ | go_keep) (fail);clear q;all_goals go_wp2
  all_goals go_end0
  all_goals exact⟨rfl,(((e.o.set 17 (I_ (d+1)) E rfl (D:={ C with lN:=C.lN.set d C.mode,jy:=d+1 }) rfl).set 8 (I_ md) E rfl rfl).alloc _).drew,tH (jY (eU (eU (eU v.o _ _) _ _) _ _) _)⟩
 have Y:(a == 2)=false:=by simpa using i
 by_cases l:a=3
 .subst l;have K:=u rfl;obtain⟨k,L⟩:∃k,d=k+1:=⟨d-1,o_⟩;subst L;have n:k<8:=o_;have H:=m.cell (j:=9+k) (sH n);have i1:=jJ k;have i2:(k:Int)<8:=o_;have n1:¬(17=9+k):=o_;have R:¬(8=9+k):=o_;have S:¬(9+k=17):=o_;have U:¬(9+k=8):=o_;have c:Hid (xI ⟨x,3,md⟩ C={ C with mode:=Pu.aU C.lN k,jy:=k }):=by
   show _=_;have q:(C.jy-1).toNat=k:=o_;have e:C.jy-1=k:=o_;simp[xI,gH,mI,ny,e]
  rw[c.o];have I:((k+1:Nat):Int)=k+1:=o_;rw[I]at s;have e:=bL (p.o.set 17 (I_ k) E rfl (D:={ C with jy:=k }) rfl);have z:=bL (e.o.set 8 (I_ (Pu.aU C.lN k)) E rfl (D:={ C with jy:=k,mode:=Pu.aU C.lN k }) rfl);have q:Hid (∀o,((w.setCell (a_ g 17) (I_ k)).alloc o).cell? (a_ g 17)=some (I_ k)/\((w.setCell (a_ g 17) (I_ k)).alloc o).cell? (a_ g (9+k))=some (I_ (Pu.aU C.lN k))):=fun o=>⟨(e.o.alloc o).cell (j:=17) rfl,(e.o.alloc o).cell (j:=9+k) (sH n)⟩;have A:Hid (∀o,(((w.setCell (a_ g 17) (I_ k)).setCell (a_ g 8) (I_ (Pu.aU C.lN k))).alloc o).cell? (a_ g 17)=some (I_ k)/\(((w.setCell (a_ g 17) (I_ k)).setCell (a_ g 8) (I_ (Pu.aU C.lN k))).alloc o).cell? (a_ g (9+k))=some (I_ (Pu.aU C.lN k))):=fun o=>⟨(z.o.alloc o).cell (j:=17) rfl,(z.o.alloc o).cell (j:=9+k) (sH n)⟩;clear m b c t u;go_enter func116,ntmps116;go_wp2_with fail;go_region_held3 (fun c=>c.cell? (a_ g 17)=some (I_ k)/\c.cell? (a_ g (9+k))=some (I_ (Pu.aU C.lN k))) (first | exact q.o _ | exact A.o _ | go_keep) (fail);clear q A;all_goals go_wp2
  all_goals go_end0
  all_goals exact⟨rfl,(((p.o.set 17 (I_ k) E rfl (D:={ C with jy:=k }) rfl).set 8 (I_ (Pu.aU C.lN k)) E rfl rfl).alloc _).drew,tH (jY (eU (eU v.o _ _) _ _) _)⟩
 have e:(a == 3)=false:=by simpa using l
 have c:Hid (xI ⟨x,a,md⟩ C=C):=by show _=_;simp[xI,gH,mI,ny,y,i,l]
 rw[c.o];clear m b c t u;go_enter func116,ntmps116;go_wp2;go_end0;exact⟨rfl,p.o.alloc _,jY v.o _⟩
theorem Pu.wY.bound(c:Pu.Good E f)(h:wY E f C):C.steps<=(E.s.size+1)*Pu.rM E:=by have d:=h.steps.2;have:=ach (E:=E) (a:=C.pos) (b:=E.s.size+1) (k:=C.looked) h.looked (by have:=h.within;have:=h.looked;omega);omega
theorem Pu.Good.rM{E:bI}{f:Nat->Int}(g:Pu.Good E f):0<=Pu.rM E/\Pu.rM E<=3250000:=by have n:=g.n1;have m:=g.most;unfold Pu.rM;refine⟨Int.mul_nonneg o_ o_,?_⟩;have a:(E.most+1)*(E.p.code.length:Int)<=65*(E.p.code.length:Int):=Int.mul_le_mul_of_nonneg_right o_ o_;omega
theorem Pu.wY.Dz(g:Pu.Good E f)(h:wY E f C)(c:E.s.size<=1099511627776):C.steps<=4000000000000000000:=by have a:=h.bound g;have p:=g.rM;have b:((E.s.size:Int)+1)*Pu.rM E<=((E.s.size:Int)+1)*3250000:=Int.mul_le_mul_of_nonneg_left p.2 o_;omega
def adH(g:Nat)(E:bI)(ve vr vc vh:V_)(C:bJ)(w:W_)(e:Ending)(w':W_):Prop:=
 ∃D,qJ E C D/\D.err=0/\D.pos=C.pos/\w.grownBy w' (some g)/\
  ((e=.returned (.tuple #[.bool false,I_ 0])/\Pu.look E D=.wait/\kP w' g E ve vr vc vh D 0)\/
   ∃F a,e=.returned (.tuple #[.bool true,I_ a])/\Pu.look E D=.stop F a/\kP w' g E ve vr vc vh F 0)
def qp(f:Nat->Int)(g:Nat)(E:bI)(ve vr vc vh:V_)(C:bJ)(w:W_)(gk:Nat)(wr:W_):Prop:=
 ∃D,qJ E C D/\wY E f D/\D.err=0/\D.pos=C.pos/\kP wr g E ve vr vc vh D 0/\w.grownBy wr (some g)/\gk=((E.s.size+1)*Pu.rM E-D.steps).toNat
theorem qp.next{wr:W_}(a:Pu.Good E f)(r:qJ E C D)(h:wY E f D)(e:D.err=0)(j:D.pos=C.pos)(d:D.pos<E.s.size)(c:Pu.look E D=.go F)
  (m:kP wr g E ve vr vc vh F 0) (i:w.grownBy wr (some g)):∃k,k<((E.s.size+1)*Pu.rM E-D.steps).toNat/\qp f g E ve vr vc vh C w k wr:=by
 have q:=ze a h e c;have b:=q.1.bound a;refine⟨((E.s.size+1)*Pu.rM E-F.steps).toNat,by rw[q.2.2.2.1]at b |-;omega,F,.step r ?_,q.1,q.2.1,q.2.2.1.trans j,m,i,rfl⟩;unfold zQ;rw[if_neg o_,c]
theorem acs(f:Nat->Int)(g:Nat)(E:bI)(ve vr vc vh:V_)(C:bJ)(w:W_)(gd:Pu.Good E f)(h:wY E f C)(R:C.err=0)(K:C.pos<E.s.size)(hs:E.s.size<=1099511627776)(m:kP w g E ve vr vc vh C 0) :
  Calls prog 112 #[p_ g,.string (E.s.extract C.pos.toNat E.s.size)] w (adH g E ve vr vc vh C w):=by
 obtain⟨-,-,⟨H,cc,rfl,hc1,hc2⟩⟩:=m.l.Qs gd.right;have H0:Hid (qp f g E ve vr (s_ H E.p.code.length cc) vh C w ((E.s.size+1)*Pu.rM E-C.steps).toNat w):=⟨C,.refl _,h,R,rfl,m,⟨rfl,rfl,rfl,dF,fun _ _ _=>rfl⟩,rfl⟩;have hp0:=h.pos;have GD:=bL gd;have PC:Hid (C.pos<E.s.size):=K;have BT:Hid (∀n,C.pos.toNat+n<E.s.size->bt (E.s.extract C.pos.toNat E.s.size) n=bt E.s (C.pos.toNat+n)):=fun n hn=>jb E.s C.pos.toNat E.s.size n dF hn;have ZN:Hid ((E.s.extract C.pos.toNat E.s.size).size=E.s.size-C.pos.toNat):=by show _=_;simp
 generalize E.s.extract C.pos.toNat E.s.size=rest at *;clear h R m gd K;go_in;go_wp2_with fail;go_loopg [] ((E.s.size+1)*Pu.rM E-C.steps).toNat (fun gk wr=>qp f g E ve vr (s_ H E.p.code.length cc) vh C w gk wr);exact H0.o;clear H0;obtain⟨D,hr,l,R,O,d,hg,rfl⟩:=hrel;have a:=bL (And.intro hr (And.intro l (And.intro R O)));have hi:=l.ins;have hi':=(l.live R).1;have hlk:=l.looked;have hmk:=l.marked;have hcc:=l.c;have hstp:=l.steps.1;have anq:=l.Dz GD.o hs;have hwi:=l.within;have n1:=GD.o.n1;have m1:=GD.o.most;obtain⟨k,hk⟩:=Int.eq_ofNat_of_zero_le hi.1;have hk1:k<E.p.code.length:=o_;have hk2:(k:Int)<E.p.code.length:=o_;obtain⟨p,N⟩:=Int.eq_ofNat_of_zero_le hlk.1;have c2:=d.cell (j:=2) rfl;have s:=d.cell (j:=19) rfl;rw[hk]at s;have HM:=bL (And.intro d hg);have t:=bL (And.intro hk N);have ok:=GD.o.abq hk1;have nx:=GD.o.next hk1;rw[O]at hwi;rw[N]at hlk hmk hwi;clear d hg hr l hk hi hi' N O R;go_wp2_with fail;go_quiet (fail);clear c2 s;have I:=bL (And.intro (HM.o.1.drewN nq) (lu HM.o.2 nq));clear HM;generalize wr.drewN nq=W at *;have d:=I.o.1;have q:=VG d.l.c hk1;have aW:=q.1;have q1:=q.2.1;have q2:=q.2.2.1;have q3:=q.2.2.2;have yQ:=VF d.l.c d.fB d_;have glt:=bP d.fB;have clt:=(iN d.l.c).2;have c2:=d.cell (j:=2) rfl;have s:=d.cell (j:=19) rfl;rw[t.o.1]at s;have ne1:g≠W.heap.size:=o_;have uC:H≠W.heap.size:=o_;have II:W.heap.size≠g:=o_;have IJ:W.heap.size≠H:=o_;have Ij:g≠H:=fun e=>yQ e.symm;unfold qm at ok;clear q d;go_wp2_with fail;generalize hX:Pu.aO E.p.code k=x at *;have z:=bL hX;clear hX;go_region_held3 (fun S=>S.cell? (a_ g 2)=some (s_ H E.p.code.length cc)/\S.cell? (a_ g 19)=some (I_ k)/\S.cell? (a_ H (k*4))=some (I_ x.op)/\S.cell? (a_ H (k*4+1))=some (I_ x.a)/\S.cell? (a_ H (k*4+2))=some (I_ x.b)/\S.cell? (a_ H (k*4+3))=some (I_ x.bH)) (go_keep) (fail);rename_i hh;clear hh aW q1 q2 q3 c2 s;have Y:=bL (And.intro (I.o.1.alloc (c_ #[I_ x.op,I_ x.a,I_ x.b,I_ x.bH] 50)).drew (tH (jY I.o.2 (c_ #[I_ x.op,I_ x.a,I_ x.b,I_ x.bH] 50))));have U:dh (W.alloc (c_ #[I_ x.op,I_ x.a,I_ x.b,I_ x.bH] 50)).drew W.heap.size 50 [I_ x.op,I_ x.a,I_ x.b,I_ x.bH]:=hn_ _ _;clear I;generalize (W.alloc (c_ #[I_ x.op,I_ x.a,I_ x.b,I_ x.bH] 50)).drew=X at *;generalize W.heap.size=gi at *;have aS:=bQ 0 U rfl;have i1:=bQ 1 U rfl;have i2:=bQ 2 U rfl;have i3:=bQ 3 U rfl;clear U yQ glt clt uC IJ Ij hc1 hc2;have d:=Y.o.1;have c3:=d.cell (j:=3) rfl;have c18:=d.cell (j:=18) rfl;have s:=d.cell (j:=19) rfl;have c20:=d.cell (j:=20) rfl;have c21:=d.cell (j:=21) rfl;have c22:=d.cell (j:=22) rfl;have c23:=d.cell (j:=23) rfl;have J:=d.cell (j:=25) rfl;have f18:=d.frozen 18;have f19:=d.frozen 19;have f20:=d.frozen 20;have f21:=d.frozen 21;have f22:=d.frozen 22;have f23:=d.frozen 23;rw[t.o.1]at s;rw[t.o.2]at c21;clear d;have V:Hid (∀r,Pu.look E D=r↔Pu.look E D=r):=fun _=>Iff.rfl;have e1:D.ins.toNat=k:=by rw[t.o.1];rfl
 have v:=bL e1;clear e1 V;have L:Hid (D.pos<E.s.size):=by show D.pos<_;rw[a.o.2.2.2];exact PC.o
 have A1:=Y.o.1.set 18 (I_ (D.steps+1)) E rfl (D:={ D with steps:=D.steps+1 }) rfl;have B:=bL (A1.set 19 (I_ (k+1)) E rfl (D:={ D with steps:=D.steps+1,ins:=D.ins+1 }) (by rw[t.o.1];rfl));have G:=bL (eU (eU Y.o.2 18 (I_ (D.steps+1))) 19 (I_ (k+1)));clear A1;by_cases o4:x.op=4
 .have t1:0<=x.bH/\x.bH<E.p.code.length:=o_;have i:Hid (Pu.look E D=.go { D with steps:=D.steps+1,ins:=x.bH }):=by show _=_;unfold Pu.look;rw[v.o,z.o];simp[o4]
  rw[o4]at aS;clear ok nx;go_wp2;obtain⟨u,b⟩:=qp.next GD.o a.o.1 a.o.2.1 a.o.2.2.1 a.o.2.2.2 L.o i.o (B.o.set 19 (I_ x.bH) E rfl rfl) (eU G.o 19 (I_ x.bH));go_roundg u;exact b.2;exact b.1
 by_cases o5:x.op=5
 .have i:Hid (Pu.look E D=.stop { D with steps:=D.steps+1,ins:=D.ins+1 } 0):=by show _=_;unfold Pu.look;rw[v.o,z.o];simp[o5]
  rw[o5]at aS;clear ok nx;go_wp2;go_ret2;exact⟨D,a.o.1,a.o.2.2.1,a.o.2.2.2,G.o,.inr ⟨_,_,rfl,i.o,B.o⟩⟩
 by_cases o1:x.op=1
 .rw [o1]at aS;have nn:=nx o_;clear nx;by_cases hl0:0<p
  .have i:Hid (Pu.look E D=.go { D with steps:=D.steps+1,ins:=D.ins+1,rule:=x.a,marked:=D.looked }):=by show _=_;unfold Pu.look;rw[v.o,z.o,t.o.2];simp[o1,hl0]
   have hl1:(0:Int)<p:=o_;clear ok;go_wp2;obtain⟨u,b⟩:=qp.next GD.o a.o.1 a.o.2.1 a.o.2.2.1 a.o.2.2.2 L.o i.o ((B.o.set 22 (I_ x.a) E rfl (D:={ D with steps:=D.steps+1,ins:=D.ins+1,rule:=x.a }) rfl).set 23 (I_ p) E rfl (by rw[t.o.2];rfl)) (eU (eU G.o 22 (I_ x.a)) 23 (I_ p));go_roundg u;exact b.2;exact b.1
  .have hz:p=0:=o_;have i:Hid (Pu.look E D=.go { D with steps:=D.steps+1,ins:=D.ins+1 }):=by show _=_;unfold Pu.look;rw[v.o,z.o,t.o.2];simp[o1,hz]
   subst hz;clear ok;go_wp2;obtain⟨u,b⟩:=qp.next GD.o a.o.1 a.o.2.1 a.o.2.2.1 a.o.2.2.2 L.o i.o B.o G.o;go_roundg u;exact b.2;exact b.1
 by_cases o3:x.op=3
 .rw [o3]at aS;have nn:=nx o_;have t1:0<=x.bH/\x.bH<E.p.code.length:=o_;clear nx ok;by_cases ha:x.a<=D.c
  .by_cases hb:D.c<=x.b
   .have i:Hid (Pu.look E D=.go { D with steps:=D.steps+1,ins:=x.bH }):=by show _=_;unfold Pu.look;rw[v.o,z.o];simp[o3,ha,hb]
    go_wp2_with fail;go_quiet (fail);go_wp2;obtain⟨u,b⟩:=qp.next GD.o a.o.1 a.o.2.1 a.o.2.2.1 a.o.2.2.2 L.o i.o ((B.o.set 19 (I_ x.bH) E rfl rfl).drewN nq) (lu (eU G.o 19 (I_ x.bH)) nq);go_roundg u;exact b.2;exact b.1
   .have hb':decide (D.c<=x.b)=false:=by simpa using hb
    have i:Hid (Pu.look E D=.go { D with steps:=D.steps+1,ins:=D.ins+1 }):=by show _=_;unfold Pu.look;rw[v.o,z.o];simp[o3,hb]
    go_wp2_with fail;go_quiet (fail);go_wp2;obtain⟨u,b⟩:=qp.next GD.o a.o.1 a.o.2.1 a.o.2.2.1 a.o.2.2.2 L.o i.o (B.o.drewN nq) (lu G.o nq);go_roundg u;exact b.2;exact b.1
  .have ha':decide (x.a<=D.c)=false:=by simpa using ha
   have i:Hid (Pu.look E D=.go { D with steps:=D.steps+1,ins:=D.ins+1 }):=by show _=_;unfold Pu.look;rw[v.o,z.o];simp[o3,ha]
   go_wp2_with fail;go_quiet (fail);go_wp2;obtain⟨u,b⟩:=qp.next GD.o a.o.1 a.o.2.1 a.o.2.2.1 a.o.2.2.2 L.o i.o (B.o.drewN nq) (lu G.o nq);go_roundg u;exact b.2;exact b.1
 have o2:x.op=2:=o_;rw[o2]at aS;have nn:=nx o_;clear nx ok;have Z:=a.o.2.2.2;by_cases sp:rest.size<=p
 .have sp1:(rest.size:Int)<=p:=o_;have A:(E.s.size:Int)<=D.pos+D.looked:=by rw[t.o.2,Z];have:=ZN.o;omega
  have Q:=bL A;clear A Z;cases hE:E.ended
  .rw [hE]at J;have i:Hid (Pu.look E D=.wait):=by show _=_;unfold Pu.look;rw[v.o,z.o];simp[o2,hE,Q.o]
   go_wp2;go_ret2;exact⟨D,a.o.1,a.o.2.2.1,a.o.2.2.2,Y.o.2,.inl ⟨rfl,i.o,Y.o.1⟩⟩
  .rw [hE]at J;have i:Hid (Pu.look E D=.stop { D with steps:=D.steps+1,ins:=D.ins+1 } 0):=by show _=_;unfold Pu.look;rw[v.o,z.o];simp[o2,hE,Q.o]
   go_wp2;go_ret2;exact⟨D,a.o.1,a.o.2.2.1,a.o.2.2.2,G.o,.inr ⟨_,_,rfl,i.o,B.o⟩⟩
 .have sp1:decide ((rest.size:Int)<=p)=false:=by simp;omega
  have A:¬(E.s.size:Int)<=D.pos+D.looked:=by rw[t.o.2,Z];have:=ZN.o;omega
  have Q:=bL A;have sp3:(p:Int)<rest.size:=o_;have x0:=fun w=>eB rest (p:Int) p rfl o_ w;have bx:=BT.o p (by have:=ZN.o;omega);rw[bx]at x0;have bb:=iM E.s (C.pos.toNat+p);have HB:Hid (bt E.s (D.pos+D.looked).toNat=bt E.s (C.pos.toNat+p)):=by show _=_;rw[t.o.2,Z];congr 1;omega
  clear A Z sp bx;by_cases d:E.most<=p
  .have i:Hid (Pu.look E D=.stop { D with steps:=D.steps+1,ins:=D.ins+1 } 5):=by
    show _=_;have h1:=Q.o;have h2:E.most<=D.looked:=by rw[t.o.2];exact d
    unfold Pu.look;rw[v.o,z.o];simp only;rw[if_neg o1,if_pos o2,if_neg h1,if_pos h2]
   cases hE:E.ended;all_goals
    rw[hE]at J;go_wp2_with fail;go_quiet (fail);go_wp2;go_ret2;exact⟨D,a.o.1,a.o.2.2.1,a.o.2.2.2,lu G.o nq,.inr ⟨_,_,rfl,i.o,B.o.drewN nq⟩⟩
  .have i:Hid (Pu.look E D=.go { D with steps:=D.steps+1,ins:=D.ins+1,c:=bt E.s (C.pos.toNat+p),looked:=D.looked+1 }):=by
    show _=_;have h1:=Q.o;have h2:¬E.most<=D.looked:=by rw[t.o.2];exact d
    unfold Pu.look;rw[v.o,z.o,<-HB.o];simp only;rw[if_neg o1,if_pos o2,if_neg h1,if_neg h2]
   have hm1:decide (E.most<=(p:Int))=false:=by simpa using d
   clear HB Q d;generalize bt E.s (C.pos.toNat+p)=y at *;have A3:=bL (B.o.set 20 (I_ y) E rfl (D:={ D with steps:=D.steps+1,ins:=D.ins+1,c:=y }) rfl);have A4:=bL (A3.o.set 21 (I_ (p+1)) E rfl (D:={ D with steps:=D.steps+1,ins:=D.ins+1,c:=y,looked:=D.looked+1 }) (by rw[t.o.2];rfl));have G4:=bL (eU (eU G.o 20 (I_ y)) 21 (I_ (p+1)));cases hE:E.ended;all_goals
    rw[hE]at J;go_wp2_with fail;go_quiet (fail);go_wp2;obtain⟨u,b⟩:=qp.next GD.o a.o.1 a.o.2.1 a.o.2.2.1 a.o.2.2.2 L.o i.o (A4.o.drewN nq) (lu G4.o nq);go_roundg u;exact b.2;exact b.1
def fw(l:List bK):List V_:=l.flatMap (fun t=>[I_ t.rule,I_ t.pos,I_ t.len,I_ t.line,I_ t.iU])
theorem uX(l:List bK)(t:bK):fw (l++[t])=fw l++[I_ t.rule,I_ t.pos,I_ t.len,I_ t.line,I_ t.iU]:=by simp[fw]
theorem Tryz.info67 : (prog.info? 67).map (fun i=>(i.zero,i.size,i.bytes))=some (some (.agg #[I_ 0,I_ 0,I_ 0,I_ 0,I_ 0]),5,40):=k_
def nY(E:bI)(D:bJ):Y_:=if D.err≠0 then ⟨#[]⟩ else E.s.extract D.pos.toNat E.s.size
structure Scn(w:W_)(g:Nat)(E:bI)(D:bJ)(f:Nat->Int)(ve vr vc vh:V_):Prop where
 m:kP w g E ve vr vc vh D D.err
 h:mW w vh (nY E D)
 good:Pu.Good E f
 sta:wY E f D
def EY(f:Nat->Int)(g:Nat)(E:bI)(ve vr vc:V_)(C:bJ)(w:W_)(e:Ending)(w':W_):Prop:=
 ∃D T vt vh,rW E C D/\D.dU=C.dU++T/\e=.returned (.tuple #[vt,I_ D.err])/\w'.ownsRow w.heap.size 67 5 vt T.length (fw T)/\Scn w' g E D f ve vr vc vh/\w.grownBy w' (some g)
structure ZF(f:Nat->Int)(g:Nat)(E:bI)(ve vr vc vh:V_)(C:bJ)(w:W_)(D:bJ)(T:List bK)(vt:V_)(wr:W_):Prop where
 r:qJ E C D
 sta:wY E f D
 err:D.err=0
 dU:D.dU=C.dU++T
 own:wr.ownsRow w.heap.size 67 5 vt T.length (fw T)
 m:kP wr g E ve vr vc vh D 0
 gr:w.grownBy wr (some g)
theorem Fu(w:W_)(s:Y_)(c:s.size<=9223372036854775807):∃a w',(convert 9 109 (.string s)).run prog w=.ok (s_ w.heap.size s.size a) w'/\B_ w w'/\mW w' (s_ w.heap.size s.size a) s:=by refine⟨_,_,Lib.run_convert_string_bytes w 9 109 5 s underlying9 underlying109 underlying5,⟨rfl,rfl,rfl,by rw[Lib.bytesWorld_size];omega,fun k b=>Lib.bytesWorld_at_old w _ s k b⟩,.inr ⟨w.heap.size,_,_,_,rfl,grownCap_ge _ _ _ _,grownCap_le_maxLen _ _ _ _ (by unfold maxLen;exact c),Lib.bytesWorld_at_new w _ s,fun j b=>?_⟩⟩;have:=Lib.bytesWorld_cell w 5 s j b;simp only[World.cell?,Lib.bytesWorld_at_new]at this;simpa [bt]using this
theorem Pu.qJ.quiet(g:Pu.Good E f)(r:qJ E C D)(h:wY E f C):C.pos<=D.pos/\(D.pos=C.pos->D.err=0->D.dU=C.dU):=by
 induction r with
 | refl=>exact⟨Int.le_refl _,fun _ _=>rfl⟩
 | @step G F p a b=>
  have j:=p.inv g h;unfold zQ at a;split at a
  .cases a
  .rename_i l;have d:G.err=0:=by
    by_cases e:G.err=0
    .exact e
    .exact absurd (.inl e) l
   cases hl:Pu.look E G with
   | wait=>rw[hl]at a;cases a
   | go c=>rw[hl]at a;cases a;have q:=ze g j d hl;exact⟨by rw[q.2.2.1];exact b.1,fun k _=>by rw[q.2.2.2.2];exact b.2 (by rw[<-q.2.2.1];exact k) d⟩
   | stop c e=>
    rw[hl]at a;cases a;have q:=sO g j d hl;unfold Pu.take;split
    .refine⟨by show C.pos<=c.pos;rw[q.2.1];exact b.1,fun _ i=>?_⟩;exact absurd i y_
    .split
     .refine⟨by show C.pos<=c.pos;rw[q.2.1];exact b.1,fun _ i=>?_⟩;exact absurd i y_
     .rename_i n s;have t:=uj g q.1 o_;have:=b.1;exact⟨by have:=t.2.2.1;omega,fun k _=>by have:=t.2.2.1;omega⟩
theorem aak{b s:Y_}{a:Nat}{q:Int × Int}:∀(n:Nat),(∀i,i<n->bt b i=bt s (a+i))->qO b 0 n q=qO s a n q
 | 0,_=>rfl
 | n+1,h=>by simp only[qO];rw[aak n (fun i c=>h i o_),Nat.zero_add,h n o_]
theorem kP.Pg(m:kP w g E ve vr vc vh C fault)(h:lI ve vr vc vh E.most E.depth C E.ended fault=lI ve vr vc vh E.most E.depth D E.ended fault):kP w g E ve vr vc vh D fault:=
 ⟨by rw[<-h];exact m.fB,m.l⟩
structure nG(g:Nat)(E:bI)(ve vr vc vh:V_)(w:W_)(T:List bK)(vt:V_)(F:bJ)(W:W_):Prop where
 own:W.ownsRow w.heap.size 67 5 vt T.length (fw T)
 m:kP W g E ve vr vc vh F 0
 gr:w.grownBy W (some g)
theorem nG.on{a:bJ}(k:nG g E ve vr vc vh w T vt F W)(b:W.grownBy W' (some g))(c:kP W' g E ve vr vc vh a 0):nG g E ve vr vc vh w T vt a W':=
 ⟨dO k.own k.m.fB d_ b,c,Lib.grownBy_trans k.gr b⟩
theorem nG.below{g:Nat}{E:bI}{ve vr vc vh:V_}{w:W_}{T:List bK}{vt:V_}{F:bJ}{W W':W_}(k:nG g E ve vr vc vh w T vt F W)(a:B_ W W'):nG g E ve vr vc vh w T vt F W':=
 ⟨bW k.own a dF,k.m.below a,Ow k.gr a⟩
theorem nG.alloc{g:Nat}{E:bI}{ve vr vc vh:V_}{w:W_}{T:List bK}{vt:V_}{F:bJ}{W:W_}(k:nG g E ve vr vc vh w T vt F W)(o:Obj):nG g E ve vr vc vh w T vt F (W.alloc o):=
 k.below (kM o)
theorem nG.drew{g:Nat}{E:bI}{ve vr vc vh:V_}{w:W_}{T:List bK}{vt:V_}{F:bJ}{W:W_}(k:nG g E ve vr vc vh w T vt F W):nG g E ve vr vc vh w T vt F W.drew:=
 k.below ((Br_ _ _).drew)
theorem nG.drewN{g:Nat}{E:bI}{ve vr vc vh:V_}{w:W_}{T:List bK}{vt:V_}{F:bJ}{W:W_}(k:nG g E ve vr vc vh w T vt F W)(n:Nat):nG g E ve vr vc vh w T vt F (W.drewN n):=
 k.below (bd_ (Br_ _ _) n)
theorem fq{base e size n t:Nat}{v:V_}{xs ys:List V_}(h:W.ownsRow base e size v n xs)(a:dh W g t ys)(k:t≠e)(j:W.grownBy W' v.ownBlock):dh W' g t ys:=by
 refine bR a j ?_;intro b;rcases h.2 with ⟨rfl,_⟩ | ⟨l,d,i,rfl,_,c,_⟩
 .simp [Value.ownBlock]at b
 .simp only[Value.ownBlock,Option.some.injEq]at b;subst b;unfold dh at a;rw[c]at a;simp at a;exact k a.2.symm
theorem nG.more{g:Nat}{E:bI}{ve vr vc vh:V_}{w:W_}{T c:List bK}{vt b:V_}{F:bJ}{W W':W_}(k:nG g E ve vr vc vh w T vt F W)(a:W.grownBy W' vt.ownBlock)(i:W'.ownsRow w.heap.size 67 5 b c.length (fw c)):nG g E ve vr vc vh w c b F W':=by
 refine⟨i,⟨fq k.own k.m.fB d_ a,⟨eX k.m.l.e k.own d_ a,eX k.m.l.r k.own d_ a,eX k.m.l.c k.own d_ a⟩⟩,?_⟩;have l:=k.gr.size;refine⟨a.1.trans k.gr.1,a.2.trans k.gr.2,a.3.trans k.gr.3,lt_ k.gr.size a.size,fun j h d=>?_⟩;rw[a.block j o_ ?_]
 .exact k.gr.block j h d
 .intro e;have:=(ol_ k.own j e.symm).1;omega
theorem nG.again(k:nG g E ve vr vc vh w T vt F W)(x:Int) :
  nG g E ve vr vc vh w T vt { F with ins:=x,c:=0,looked:=0,rule:=0,marked:=0 } (((((W.setCell (a_ g 19) (I_ x)).setCell (a_ g 20) (I_ 0)).setCell (a_ g 21) (I_ 0)).setCell (a_ g 22) (I_ 0)).setCell (a_ g 23) (I_ 0)):=by
 have a:=k.on (gs_ W g 19 (I_ x)) (k.m.set 19 (I_ x) E rfl (D:={ F with ins:=x }) rfl);have b:=a.on (gs_ _ g 20 (I_ 0)) (a.m.set 20 (I_ 0) E rfl (D:={ F with ins:=x,c:=0 }) rfl);have d:=b.on (gs_ _ g 21 (I_ 0)) (b.m.set 21 (I_ 0) E rfl (D:={ F with ins:=x,c:=0,looked:=0 }) rfl);have e:=d.on (gs_ _ g 22 (I_ 0)) (d.m.set 22 (I_ 0) E rfl (D:={ F with ins:=x,c:=0,looked:=0,rule:=0 }) rfl);exact e.on (gs_ _ g 23 (I_ 0)) (e.m.set 23 (I_ 0) E rfl rfl)
theorem NH{rest:Y_}{b a:Nat}(n:Pu.Good E f)(k:nG g E ve vr vc vh w T vt F W)(p:B_ W W')(h:mW W' (s_ b rest.size a) rest)
  (q:rW E C F) (j:wY E f F) (l:F.err=0) (r:F.dU=C.dU++T) (c:E.s.extract F.pos.toNat E.s.size=rest) :
  EY f g E ve vr vc C w (.returned (.tuple #[vt,I_ 0])) (W'.setCell (a_ g 24) (s_ b rest.size a)):=by
 have d:=k.below p;have i:=gs_ W' g 24 (s_ b rest.size a);refine⟨F,T,vt,s_ b rest.size a,q,r,by rw[l],dO d.own d.m.fB d_ i,⟨?_,?_,n,j⟩,Lib.grownBy_trans d.gr i⟩
 .rw [l];exact d.m.set 24 _ E rfl rfl
 .have e:nY E F=rest:=by unfold nY;rw[if_neg o_];exact c
  rw[e];exact h.on d.m.fB d_ i
theorem Jc(j:Pu.Good E f)(k:nG g E ve vr vc vh w T vt F W)(e:Int)(d:e≠0)(n:qJ E C D)(l:zQ E D=some { F with err:=e })(c:wY E f { F with err:=e })(p:F.dU=C.dU++T) :
  EY f g E ve vr vc C w (.returned (.tuple #[vt,I_ e])) ((W.setCell (a_ g 26) (I_ e)).setCell (a_ g 24) n_):=by
 have a:=gs_ W g 26 (I_ e);have h:=k.m.set 26 (I_ e) E rfl (D:={ F with err:=e }) (fault':=e) rfl;have b:=gs_ (W.setCell (a_ g 26) (I_ e)) g 24 n_;refine⟨{ F with err:=e },T,vt,n_,⟨.step n l,AP d⟩,p,rfl,dO (dO k.own k.m.fB d_ a) h.fB d_ b,⟨h.set 24 _ E rfl rfl,?_,j,c⟩,Lib.grownBy_trans (Lib.grownBy_trans k.gr a) b⟩;have i:nY E { F with err:=e }=⟨#[]⟩:=by unfold nY;exact if_pos d
 rw[i];exact .inl ⟨rfl,rfl⟩
theorem Da(f:Nat->Int)(g:Nat)(E:bI)(ve vr vc vh:V_)(C:bJ)(w:W_)(gd:Pu.Good E f)(h:wY E f C)(he:C.err=0)(hs:E.s.size<=1099511627776)(m:kP w g E ve vr vc vh C 0) :
  Calls prog 81 #[p_ g,.string (E.s.extract C.pos.toNat E.s.size)] w (EY f g E ve vr vc C w):=by
 obtain⟨⟨ge,O,rfl,he1,he2⟩,⟨x,Q,rfl,d,hr2⟩,-⟩:=m.l.Qs gd.right;obtain⟨aS,hi,hz0,hz1,hz2⟩:=ip_ info67;have s:=bL gd;have H0:Hid (ZF f g E _ _ vc vh C w C [] (s_ w.heap.size 0 0) (w.alloc (c_ #[] 67))):=⟨.refl _,h,he,i_,World.ownsRow_made w #[] 0 dF (zl_ _) rfl,m.alloc _,jY ⟨rfl,rfl,rfl,dF,fun _ _ _=>rfl⟩ _⟩;have glt:=bP m.fB;have HS:=bL hs;clear h he m gd hs;go_in;go_wp2_with fail;go_loopg [1,6] (E.s.size-C.pos.toNat) (fun gk rs tv wr=>∃(D:bJ) (T:List bK) (vt:V_),rs=.string (E.s.extract D.pos.toNat E.s.size)/\vt=tv/\gk=E.s.size-D.pos.toNat/\ZF f g E (s_ ge E.p.ents.length O) (s_ x E.p.rules.length Q) vc vh C w D T vt wr);exact⟨C,[],_,rfl,rfl,rfl,H0.o⟩;clear H0;obtain⟨D,T,vt,rfl,rfl,rfl,Z⟩:=hrel;have v:=bL Z;have hp0:=Z.sta.pos;have hwi:=Z.sta.within;have hlk:=Z.sta.looked;have hpd:D.pos<=E.s.size:=o_;have hrs:(E.s.extract D.pos.toNat E.s.size).size=E.s.size-D.pos.toNat:=i_;have hge:=Z.gr.size;have K0:Hid (nG g E (s_ ge E.p.ents.length O) (s_ x E.p.rules.length Q) vc vh w T vt D wr):=⟨Z.own,Z.m,Z.gr⟩;clear Z;by_cases hlt:D.pos<E.s.size;have d0:(0:Int)<((E.s.extract D.pos.toNat E.s.size).size:Int):=o_;have SK:=bL (fun W=>acs f g E (s_ ge E.p.ents.length O) (s_ x E.p.rules.length Q) vc vh D W s.o v.o.sta v.o.err hlt HS.o);have K:Hid ((E.s.extract D.pos.toNat E.s.size).size=E.s.size-D.pos.toNat):=hrs;have BT:Hid (∀n,D.pos.toNat+n<E.s.size->bt (E.s.extract D.pos.toNat E.s.size) n=bt E.s (D.pos.toNat+n)):=fun n hn=>jb E.s D.pos.toNat E.s.size n dF hn;have hRS:Hid (E.s.extract D.pos.toNat E.s.size=E.s.extract D.pos.toNat E.s.size):=rfl;clear hrs hRS;rotate_left;have hpe:D.pos=E.s.size:=o_;have d0:((E.s.extract D.pos.toNat E.s.size).size:Int)=0:=o_;have l:=bL (And.intro (show rW E C D from ⟨v.o.r,by unfold zQ;rw[if_pos (.inr o_)]⟩) (And.intro v.o.sta (And.intro v.o.err v.o.dU)));obtain⟨cap,w2,hcv,y,R⟩:=Fu wr (E.s.extract D.pos.toNat E.s.size) o_;have m2:=K0.o.m.below y;have c24:=m2.cell (j:=24) rfl;have f24:=m2.frozen 24;have HB:=bL (And.intro y R);clear y R m2;rotate_left;all_goals
  generalize hRE:E.s.extract D.pos.toNat E.s.size=rest at *;have RE:=bL hRE
 .clear hRE;go_wp2_with fail;refine (SK.o _ K0.o.m).mono ?_;clear SK;rintro e w1 ⟨F,d,Zy,A,S,(⟨rfl,tK,G⟩ | ⟨a,er,rfl,tK,G⟩)⟩
  .have L:=bL (K0.o.on S G);have hst:=d.inv s.o v.o.sta;have l:=bL (And.intro (show rW E C F from ⟨v.o.r.trans d,by unfold zQ;rw[tK];split <;> rfl⟩) (And.intro hst (And.intro Zy (And.intro (((d.quiet s.o v.o.sta).2 A Zy).trans v.o.dU) (show E.s.extract F.pos.toNat E.s.size=rest by rw[A];exact RE.o)))));obtain⟨cap,w2,hcv,y,R⟩:=Fu w1 rest (by have:=K.o;have:=HS.o;omega);have m2:=L.o.m.below y;have c24:=m2.cell (j:=24) rfl;have f24:=m2.frozen 24;have HB:=bL (And.intro y R);clear d Zy A S tK G hst y R m2 K0 BT;go_wp2;go_ret2;exact NH s.o L.o HB.o.1 HB.o.2 l.o.1 l.o.2.1 l.o.2.2.1 l.o.2.2.2.1 l.o.2.2.2.2
  .have ag5:=d.inv s.o v.o.sta;have q:=sO s.o ag5 Zy tK;have L:=bL (K0.o.on S G);have ag0:zQ E F=some (Pu.take E a er):=by unfold zQ;rw[if_neg o_,tK]
   have htk:a.dU=C.dU++T:=q.2.2.2.2.2.trans (((d.quiet s.o v.o.sta).2 A Zy).trans v.o.dU);have b:=bL (And.intro q (And.intro (v.o.r.trans d) (And.intro ag0 htk)));have FP:Hid (a.pos=D.pos):=q.2.1.trans A;have c24:=L.o.m.cell (j:=24) rfl;have f24:=L.o.m.frozen 24;have c26:=L.o.m.cell (j:=26) rfl;have f26:=L.o.m.frozen 26;rcases q.2.2.2.1 with h0 | h5
   .subst h0;have hru:=q.1.rule;have JU:=bL (fun W m=>Xr g E (s_ ge E.p.ents.length O) (s_ x E.p.rules.length Q) vc vh a 0 W m s.o.right hru);have HW:=bL (QM E.p E.depth a);clear q d Zy tK G ag5 ag0 htk K0 S A;go_wp2_with fail;refine (JU.o _ L.o.m).mono ?_;clear JU;rintro e w2 ⟨rfl,nd,rfl⟩;have K2:=bL (L.o.drewN nd);clear L;by_cases X:Pu.wrong E.p E.depth a=0
    .rw [X];have hmk:=b.o.1.1.marked;have hlk2:=b.o.1.1.looked;have anr:=b.o.1.1.within;have hmp:1<=a.marked:=by
      by_cases e0:a.marked=0
      .unfold Pu.wrong at X;rw[if_pos e0]at X;cases X
      .omega
     obtain⟨n,hn⟩:=Int.eq_ofNat_of_zero_le hmk.1;obtain⟨k,hk⟩:=Int.eq_ofNat_of_zero_le hru.1;have hkr:k<E.p.rules.length:=o_;have hki:(k:Int)<E.p.rules.length:=o_;have hnr:n<=rest.size:=by have:=K.o;have:=FP.o;omega
     have hni:(n:Int)<=rest.size:=o_;have hn1:1<=n:=o_;have TO:=bL (fun W m=>Zd g E (s_ ge E.p.ents.length O) (s_ x E.p.rules.length Q) vc vh a 0 W m);rw[hn,hk]at TO;have B:=bL (And.intro hn (And.intro hk X));have w1':Hid ((Pu.rg E.p.rules k).act=2->a.jy<E.depth):=fun ha=>by
      have p:=X;unfold Pu.wrong at p;rw[if_neg o_,hk,tn_]at p;by_cases q2:E.depth<=a.jy
      .rw [if_pos ⟨ha,q2⟩]at p;cases p
      .omega
     have w2':Hid ((Pu.rg E.p.rules k).act=3->0<a.jy):=fun ha=>by
      have p:=X;unfold Pu.wrong at p;rw[if_neg o_,hk,tn_,if_neg o_]at p;have:=b.o.1.1.jy;by_cases q2:a.jy=0
      .rw [if_pos ⟨ha,q2⟩]at p;cases p
      .omega
     clear X hmk hlk2 anr hmp hn hk hru HW c24 f24 c26 f26;go_wp2_with fail;refine (TO.o _ K2.o.m).mono ?_;clear TO;rintro e w3 ⟨rfl,hB3⟩;have K3:=bL (K2.o.below hB3);clear K2 hB3;have hvt:Hid (∀j,vt.ownBlock=some j->j<w3.heap.size):=fun j hj=>(ol_ K3.o.own j hj).2;have K4:=bL (K3.o.alloc (c_ #[I_ k,I_ a.pos,I_ n,I_ a.line,I_ a.iU] 67));have KT:Hid (dh (w3.alloc (c_ #[I_ k,I_ a.pos,I_ n,I_ a.line,I_ a.iU] 67)) w3.heap.size 67 [I_ k,I_ a.pos,I_ n,I_ a.line,I_ a.iU]):=hn_ _ _;clear K3;go_wp2_with fail;generalize w3.alloc (c_ #[I_ k,I_ a.pos,I_ n,I_ a.line,I_ a.iU] 67)=H at *;generalize w3.heap.size=gt at *;have c1:=K4.o.m.cell (j:=1) rfl;have t0:=bQ 0 KT.o rfl;have q:=GM K4.o.m.l.r hkr;have aW:=q.1;have q1:=q.2.1;have q2:=q.2.2;have am3:=bP K4.o.m.fB;have an6:=bP KT.o;have anW:=(iN K4.o.m.l.r).2;have n1:H.heap.size≠g:=o_;have n2:H.heap.size≠gt:=o_;have n3:H.heap.size≠x:=o_;have n1':g≠H.heap.size:=o_;have n2':gt≠H.heap.size:=o_;have n3':x≠H.heap.size:=o_;have ok:=s.o.right.2.1.2 k hkr;have Y:Hid (gt≠g):=fun e=>by have b1:=KT.o;have b2:=K4.o.m.fB;rw[e]at b1;unfold dh at b1 b2;rw[b1]at b2;simp at b2
     clear q;have RX:Hid (Pu.rg E.p.rules k=Pu.rg E.p.rules k):=rfl;clear RX;generalize hR:Pu.rg E.p.rules k=r at *;have HR:=bL hR;clear hR;go_region_held3 (fun w'=>w'.cell? (a_ g 1)=some (s_ x E.p.rules.length Q)/\w'.cell? (a_ gt 0)=some (I_ k)/\w'.cell? (a_ x (k*3))=some (I_ r.emit)/\w'.cell? (a_ x (k*3+1))=some (I_ r.act)/\w'.cell? (a_ x (k*3+2))=some (I_ r.mode)) (go_keep) (fail);rename_i hh;clear hh c1 t0 aW q1 q2 n1 n2 n3 n1' n2' n3' anW d hr2 he1 he2;have K5:=bL (K4.o.alloc (c_ #[I_ r.emit,I_ r.act,I_ r.mode] 48)).drew;have KR:Hid (dh (H.alloc (c_ #[I_ r.emit,I_ r.act,I_ r.mode] 48)).drew H.heap.size 48 [I_ r.emit,I_ r.act,I_ r.mode]):=hn_ _ _;have I:Hid (dh (H.alloc (c_ #[I_ r.emit,I_ r.act,I_ r.mode] 48)).drew gt 67 [I_ k,I_ a.pos,I_ n,I_ a.line,I_ a.iU]):=cO KT.o _;have ogr:Hid (H.heap.size≠g):=by show _≠_;omega
     clear K4 KT am3 an6;generalize (H.alloc (c_ #[I_ r.emit,I_ r.act,I_ r.mode] 48)).drew=W5 at *;generalize H.heap.size=gl at *;have e0:=bQ 0 KR.o rfl;rcases ok.1 with hem | hem;rw[hem]at e0;have HEM:=bL hem;clear hem;have t2:=bQ 2 I.o rfl;rotate_left;focus
      rw[hem]at e0;have HEM:=bL hem;clear hem;have hTl:(T.length:Int)<=E.s.size:=by have h1:=v.o.sta.dU;have h2:=v.o.dU;rw[h2,la_]at h1;omega
      have hTl2:T.length<=1099511627776:=by have:=HS.o;omega
      have u0:=bQ 0 I.o rfl;have u1:=bQ 1 I.o rfl;have u2:=bQ 2 I.o rfl;have u3:=bQ 3 I.o rfl;have u4':=bQ 4 I.o rfl;have tlt:=bP I.o;go_wp2_with (at_builtin;refine wo_ _ rfl (.tmp 56) (.tmp 58) 65 rfl w.heap.size 67 aS (.agg #[I_ 0,I_ 0,I_ 0,I_ 0,I_ 0]) 5 40 underlying65 hi hz0 hz1 hz2 rfl d_ vt T.length (fw T) rfl (oa_ K5.o.own _) (a_ W5.heap.size 0) 1 1 [I_ k,I_ a.pos,I_ n,I_ a.line,I_ a.iU] rfl rfl (jc rfl) (by intro u hu;simp at hu;rcases hu with rfl | rfl | rfl | rfl | rfl <;> rfl) (by unfold maxLen;omega) o_ (by have:=K5.o.gr.size;simp;omega) ?_;intro v2 wa di bS _;have t2:=bN (j:=2) (bR (cO I.o _) bS (fun e=>by have:=hvt.o _ e.symm;omega)) rfl);have Ka:Hid (nG g E (s_ ge E.p.ents.length O) (s_ x E.p.rules.length Q) vc vh w (T++[⟨k,a.pos,n,a.line,a.iU⟩]) v2 a wa):=(K5.o.alloc _).more bS (by rw[uX,la_,List.length_singleton];exact di);have KRa:=bL (fq (K5.o.alloc _).own (cO KR.o _) d_ bS);have KTa:=bL (bR (cO I.o _) bS (fun e=>by have:=hvt.o _ e.symm;omega));clear di bS u0 u1 u2 u3 u4' K5 KR I
     rotate_left;all_goals
      have PS:=bL (fun W m=>acf g E (s_ ge E.p.ents.length O) (s_ x E.p.rules.length Q) vc vh a 0 (rest.extract 0 n) W m (by have:=FP.o;have:=HS.o;omega) (by have:=b.o.1.1.line;have:=FP.o;have:=HS.o;omega) (by have:=b.o.1.1.iU;have:=FP.o;have:=HS.o;omega) (by have:=HS.o;have:=K.o;simp;omega))
     focus
      go_wp2_with fail;refine (PS.o _ K5.o.m).mono ?_;clear PS t2;rintro e w6 ⟨rfl,U,tJ⟩;have K6:=bL (K5.o.on tJ U);have N:=bL (bR KR.o tJ (fun e=>ogr.o (by cases e;rfl)));have KT6:=bL (bR I.o tJ (fun e=>Y.o (by cases e;rfl)));clear K5 KR I U tJ
     rotate_left;refine (PS.o _ Ka.o.m).mono ?_;clear PS t2;rintro e w6 ⟨rfl,U,tJ⟩;have K6:=bL (Ka.o.on tJ U);have N:=bL (bR KRa.o tJ (fun e=>ogr.o (by cases e;rfl)));have KT6:=bL (bR KTa.o tJ (fun e=>Y.o (by cases e;rfl)));clear Ka KRa KTa U tJ;rotate_left;all_goals
      have e0:=bQ 0 N.o rfl;have e1:=bQ 1 N.o rfl;have e2:=bQ 2 N.o rfl;have AC:=bL (fun W m=>adP g E (s_ ge E.p.ents.length O) (s_ x E.p.rules.length Q) vc vh (tY (rest.extract 0 n) (rest.extract 0 n).size a) 0 r W m b.o.1.1.lN.1 (by have:=b.o.1.1.jy;have:=s.o.depth;show 0<=a.jy/\a.jy<=8;omega) (fun ha=>by have:=w1'.o ha;have:=s.o.depth;show a.jy<8;omega) (fun ha=>w2'.o ha));go_wp2_with fail;refine (AC.o _ K6.o.m).mono ?_;clear AC e0 e1 e2;rintro e w7 ⟨rfl,hm7,hg7⟩;have t:=bL (K6.o.on hg7 hm7);have KT7:=bL (bR KT6.o hg7 (fun e=>Y.o (by cases e;rfl)));clear K6 N KT6 hm7 hg7;have md:0<=gH r a/\gH r a<E.p.ents.length:=by have z:=(uj s.o b.o.1.1 B.o.2.2).1.mode;have e5:(Pu.took E.p E.s a).mode=gH (Pu.rg E.p.rules a.rule.toNat) a:=rfl;rw[e5,B.o.2.1,tn_,HR.o]at z;exact z
      obtain⟨J,V⟩:=Int.eq_ofNat_of_zero_le md.1;have MM:=bL V;have c0:=t.o.m.cell (j:=0) rfl;have c8:=t.o.m.cell (j:=8) (u:=I_ J) (by rw[<-V];rfl);have c19:=t.o.m.cell (j:=19) rfl;have c20:=t.o.m.cell (j:=20) rfl;have c21:=t.o.m.cell (j:=21) rfl;have c22:=t.o.m.cell (j:=22) rfl;have c23:=t.o.m.cell (j:=23) rfl;have f19:=t.o.m.frozen 19;have f20:=t.o.m.frozen 20;have f21:=t.o.m.frozen 21;have f22:=t.o.m.frozen 22;have f23:=t.o.m.frozen 23;have hml:J<E.p.ents.length:=o_;have hmi:(J:Int)<E.p.ents.length:=o_;have qe:=EH t.o.m.l.e hml;have yQ:=VF t.o.m.l.e t.o.m.fB d_;have far':g≠ge:=fun e=>yQ e.symm;have K8:=bL (t.o.again (Pu.aU E.p.ents J));have T1:Hid (_/\_/\_):=And.intro (K8.o.drew.m.cell (j:=0) rfl) (And.intro (K8.o.drew.m.cell (j:=8) (u:=I_ J) (by rw[<-V];rfl)) (EH K8.o.drew.m.l.e hml));have t2:=bQ 2 KT7.o rfl;have aka:=Y.o;have akb:g≠gt:=fun e=>aka e.symm;have hb:(rest.extract 0 n).size=n:=by simp;omega
      have RS2:Hid (rest.extract n rest.size=E.s.extract (a.pos+n).toNat E.s.size):=by
       show _=_;have h1:=K.o;have h2:=FP.o;rw[h1,<-RE.o];apply ByteArray.ext;simp;congr 1;all_goals omega
      have TOOK:Hid (lI (s_ ge E.p.ents.length O) (s_ x E.p.rules.length Q) vc vh E.most E.depth { xI r (tY (rest.extract 0 n) (rest.extract 0 n).size a) with ins:=Pu.aU E.p.ents J,c:=0,looked:=0,rule:=0,marked:=0 } E.ended 0=lI (s_ ge E.p.ents.length O) (s_ x E.p.rules.length Q) vc vh E.most E.depth (Pu.took E.p E.s a) E.ended 0):=by
       show _=_;have ha:qO (rest.extract 0 n) 0 n (a.line,a.iU)=qO E.s a.pos.toNat n (a.line,a.iU):=aak n (fun i hi=>by
        have h1:=K.o;have h2:=FP.o;rw[jb rest 0 n i o_ o_,Nat.zero_add,BT.o i o_,h2])
       unfold Pu.took tY xI;simp only;rw[hb,ha,B.o.1,B.o.2.1,tn_,tn_,HR.o];have e6:gH r a=J:=V;have e7:(gH r a).toNat=J:=by rw[e6];rfl
       unfold lI;simp only[e7];rfl
      have KT8:=bL (bR KT7.o (tH (eU (eU (eU (eU (eU (World.grownBy.refl w7 (some g)) 19 (I_ (Pu.aU E.p.ents J))) 20 (I_ 0)) 21 (I_ 0)) 22 (I_ 0)) 23 (I_ 0))) (fun e=>Y.o (by cases e;rfl)));have K9:=bL K8.o.drew;clear md V yQ hb K8;go_wp2_with fail;generalize hEN:Pu.aU E.p.ents J=en at *;go_region_held3 (fun w'=>w'.cell? (a_ g 0)=some (s_ ge E.p.ents.length O)/\w'.cell? (a_ g 8)=some (I_ J)/\w'.cell? (a_ ge J)=some (I_ en)) (first | (go_keep;done) | exact T1.o) (fail);rename_i hh;clear hh T1 c0 c8 c19 c20 c21 c22 c23 f19 f20 f21 f22 f23 qe far' t2 aka akb t KT7 hEN;generalize (((((w7.setCell (a_ g 19) (I_ en)).setCell (a_ g 20) (I_ 0)).setCell (a_ g 21) (I_ 0)).setCell (a_ g 22) (I_ 0)).setCell (a_ g 23) (I_ 0)).drew=W8 at *;have t2:=bQ 2 KT8.o rfl;go_wp2
     .go_roundg (E.s.size-(a.pos+n).toNat);have TK:Pu.take E a 0=Pu.took E.p E.s a:=by unfold Pu.take;rw[if_neg o_,if_neg (by have:=B.o.2.2;omega)]
      have ep:(Pu.took E.p E.s a).pos=a.pos+n:=by show a.pos+a.marked=_;rw[B.o.1]
      have ti:=uj s.o b.o.1.1 B.o.2.2;refine⟨Pu.took E.p E.s a,T,_,by rw[ep];exact congrArg Value.string RS2.o,rfl,by rw[ep],.step b.o.2.1 (by rw[b.o.2.2.1,TK]),ti.1,ti.2.1,?_,K9.o.own,K9.o.m.Pg TOOK.o,K9.o.gr⟩;show (if (Pu.rg E.p.rules a.rule.toNat).emit=1 then a.dU++[⟨a.rule,a.pos,a.marked,a.line,a.iU⟩] else a.dU)=_;rw[B.o.2.1,tn_,HR.o,HEM.o,B.o.1,b.o.2.2.2];simp;have:=FP.o;omega
     .go_roundg (E.s.size-(a.pos+n).toNat);have TK:Pu.take E a 0=Pu.took E.p E.s a:=by unfold Pu.take;rw[if_neg o_,if_neg (by have:=B.o.2.2;omega)]
      have ep:(Pu.took E.p E.s a).pos=a.pos+n:=by show a.pos+a.marked=_;rw[B.o.1]
      have ti:=uj s.o b.o.1.1 B.o.2.2;refine⟨Pu.took E.p E.s a,(T++[⟨k,a.pos,n,a.line,a.iU⟩]),_,by rw[ep];exact congrArg Value.string RS2.o,rfl,by rw[ep],.step b.o.2.1 (by rw[b.o.2.2.1,TK]),ti.1,ti.2.1,?_,K9.o.own,K9.o.m.Pg TOOK.o,K9.o.gr⟩;show (if (Pu.rg E.p.rules a.rule.toNat).emit=1 then a.dU++[⟨a.rule,a.pos,a.marked,a.line,a.iU⟩] else a.dU)=_;rw[B.o.2.1,tn_,HR.o,HEM.o,B.o.1,b.o.2.2.2];simp;have:=FP.o;omega
    .have hw':(Pu.wrong E.p E.depth a != 0)=true:=by simpa using X
     have TK:Hid (Pu.take E a 0={ a with err:=Pu.wrong E.p E.depth a }):=by show _=_;unfold Pu.take;rw[if_neg o_,if_pos X]
     have ST:=bL (b.o.1.1.VP (f:=f) (e:=Pu.wrong E.p E.depth a) (by have:=HW.o;omega));generalize Pu.wrong E.p E.depth a=er at *;go_wp2;go_ret2;exact Jc s.o K2.o er X b.o.2.1 (by rw[b.o.2.2.1,TK.o]) ST.o b.o.2.2.2
   .subst h5;have TK:Hid (Pu.take E a 5={ a with err:=5 }):=by show _=_;unfold Pu.take;rw[if_pos o_]
    have ST:=bL (b.o.1.1.VP (f:=f) (e:=5) o_);clear q d Zy tK G ag5 ag0 htk K0 S A;go_wp2;go_ret2;exact Jc s.o L.o 5 o_ b.o.2.1 (by rw[b.o.2.2.1,TK.o]) ST.o b.o.2.2.2
 .clear hRE hpe hrs;have d1:=nI (0:Int) (rest.size:Int);have d2:decide (0<rest.size)=false:=dn_ o_;have d3:¬(0<rest.size):=o_;clear d0;go_wp2;go_ret2;exact NH s.o K0.o HB.o.1 HB.o.2 l.o.1 l.o.2.1 l.o.2.2.1 l.o.2.2.2 RE.o
def fJ:Y_:=⟨#[]⟩
def Sc(w:W_)(g:Nat)(E:bI)(D:bJ):Prop:=∃f ve vr vc vh b,(D.err=0->b=E.ended)/\Scn w g { E with ended:=b } D f ve vr vc vh
theorem kP.env{E':bI}(m:kP w g E ve vr vc vh C fault)(a:E'.p=E.p)(b:E'.most=E.most)(c:E'.depth=E.depth)(d:E'.ended=E.ended):kP w g E' ve vr vc vh C fault:=
 ⟨by rw[b,c,d];exact m.fB,by rw[a];exact m.l⟩
theorem Lg(u:Y_)(a b:Nat):(u.extract a b).data.toList=(u.data.toList.drop a).take (b-a):=i_
theorem JE(s t:Y_)(a:Nat)(h:a<=s.size):s.extract a s.size++t=(s++t).extract a (s++t).size:=by
 apply ByteArray.ext;apply Array.toList_inj.1;have i:s.data.toList.length=s.size:=i_;have j:t.data.toList.length=t.size:=i_;have b:(s++t).size=s.size+t.size:=i_;have c:(s++t).data.toList=s.data.toList++t.data.toList:=i_;have d:(s.extract a s.size++t).data.toList=(s.data.toList.drop a).take (s.size-a)++t.data.toList:=i_;have e:((s++t).extract a (s++t).size).data.toList=((s++t).data.toList.drop a).take ((s++t).size-a):=Lg _ _ _;rw[d,e,c,b,List.drop_append_of_le_length o_,List.take_of_length_le (by rw[List.length_drop];omega),List.take_of_length_le (by rw[la_,List.length_drop];omega)]
theorem NL(w:W_)(v:V_)(s:Y_)(h:mW w v s):(convert 109 9 v).run prog w=.ok (.string s) w:=by
 rcases h with ⟨d,rfl⟩ | ⟨b,a,c,fr,rfl,t,e,i,k⟩
 .have:s=⟨#[]⟩:=by apply ByteArray.ext;exact Array.eq_empty_of_size_eq_zero d
  subst this;rw[run_convert_bytes_string w 109 9 5 none 0 0 underlying109 underlying5 underlying9]
  first | rfl | simp[Conv.bytesToString]
 .have r:s.data.toList.length=s.size:=i_;have:=run_convert_bytes_back (P:=prog) w 109 9 5 (a_ b 0) a s.data.toList underlying109 underlying5 underlying9 (fun j q=>by
   have l:=k j o_;have n:w.cell? (a_ b j)=c[j]?:=by simp[World.cell?,i]
   have p:bt s j=((s.data.toList[j]).toNat:Int):=by unfold bt;rw[gd_,gg_ q];rfl
   rw[add_eq,Nat.zero_add,n,l,p])
  rw[r]at this;simpa using this
def Ak(code:Int)(w:W_)(e:Ending)(w':W_):Prop:=e=.returned (.tuple #[n_,I_ code])/\w'=w
theorem Mv(g:Nat)(E:bI)(C:bJ)(j:Y_)(w:W_)(h:Sc w g E C)(k:E.ended=true) :
  Calls prog 56 #[p_ g,.string j] w (Ak (shut true C.err) w):=by
 obtain⟨f,ve,vr,vc,vh,b,i,e⟩:=h;have c:=bL (wJ g _ ve vr vc vh C C.err w e.m);have d:shut b C.err=shut true C.err:=by
  by_cases a:C.err=0
  .rw [i a,k]
  .simp [shut,a]
 have l:(shut true C.err != 0)=true:=by
  unfold shut;by_cases a:C.err=0
  .simp [a]
  .simp [a]
 rw[show ({ E with ended:=b }:bI).ended=b from rfl,d]at c;clear e i d;generalize shut true C.err=z at *;go_in;go_wp2_with fail;refine c.o.mono ?_;rintro e a ⟨rfl,rfl⟩;clear c;go_wp2;go_ret2;exact⟨rfl,rfl⟩
theorem Hf(g:Nat)(E:bI)(C:bJ)(w:W_)(h:Sc w g E C)(j:E.ended=true) :
  Calls prog 58 #[p_ g] w (Ak (shut true C.err) w):=by
 obtain⟨f,ve,vr,vc,vh,b,i,e⟩:=h;have c:=bL (wJ g _ ve vr vc vh C C.err w e.m);have d:shut b C.err=shut true C.err:=by
  by_cases a:C.err=0
  .rw [i a,j]
  .simp [shut,a]
 have k:(shut true C.err != 0)=true:=by
  unfold shut;by_cases a:C.err=0
  .simp [a]
  .simp [a]
 rw[show ({ E with ended:=b }:bI).ended=b from rfl,d]at c;clear e i d;generalize shut true C.err=z at *;go_in;go_wp2_with fail;refine c.o.mono ?_;rintro e a ⟨rfl,rfl⟩;clear c;go_wp2;go_ret2;exact⟨rfl,rfl⟩
theorem WT(g:Nat)(E:bI)(C:bJ)(a:Y_)(w:W_)(h:Sc w g E C)(b:E.ended=true) :
  Calls prog 26 #[p_ g,.string a] w (Ak (shut true C.err) w):=by
 have H:=bL (Mv g E C a w h b);clear h b;go_in;go_wp2_with fail;refine H.o.mono ?_;rintro e c ⟨rfl,rfl⟩;go_wp2;go_ret2;exact⟨rfl,rfl⟩
theorem Oq(g:Nat)(E:bI)(C:bJ)(w:W_)(h:Sc w g E C)(a:E.ended=true) :
  Calls prog 28 #[p_ g] w (Ak (shut true C.err) w):=by
 have H:=bL (Hf g E C w h a);clear h a;go_in;go_wp2_with fail;refine H.o.mono ?_;rintro e b ⟨rfl,rfl⟩;go_wp2;go_ret2;exact⟨rfl,rfl⟩
def acF(E:bI)(C:bJ):V_:=.agg #[I_ C.pos,I_ C.line,I_ C.iU,I_ C.mode,I_ C.jy,I_ (nY E C).size,I_ C.steps]
theorem Qk(g:Nat)(E:bI)(C:bJ)(w:W_)(h:Sc w g E C) :
  C_ 42 #[p_ g] w (Al (acF E C) w):=by
 obtain⟨f,ve,vr,vc,vh,b,k,c⟩:=h;obtain⟨d,a,rfl,e,j⟩:=c.h.form;exact Y0 g _ ve vr vc d _ a C C.err w c.m (by have i:(nY E C).size<=a:=e;show (nY E C).size<=_;omega)
theorem Sc.below{w w':W_}{g:Nat}{E:bI}{C:bJ}(h:Sc w g E C)(d:B_ w w'):Sc w' g E C:=by obtain⟨f,ve,vr,vc,vh,b,c,a⟩:=h;exact⟨f,ve,vr,vc,vh,b,c,a.m.below d,a.h.below d,a.good,a.sta⟩
theorem Sc.lt(h:Sc w g E C):g<w.heap.size:=by obtain⟨f,ve,vr,vc,vh,b,c,a⟩:=h;exact bP a.m.fB
def rP(p:lZ):bJ:=⟨0,1,1,0,List.replicate 8 0,0,0,Pu.aU p.ents 0,0,0,0,0,[],0⟩
def xR(p:lZ)(a depth:Int):bI:=⟨p,a,depth,fJ,false⟩
theorem aa2{p:lZ}{a:Int}(b:gu p)(h:1<=a/\a<=64)(e:0<=depth/\depth<=8):∃f,Pu.Good (xR p a depth) f:=by obtain⟨f,c,d⟩:=ahs b.2.2.2 b.2.2.1.tight;exact⟨f,b,h,e,c,d⟩
theorem akk{p:lZ}{a:Int}(g:Pu.Good (xR p a depth) f):wY (xR p a depth) f (rP p):=by
 have b:gu p:=g.right;have l:1<=a/\a<=64:=g.most;have d:0<=depth/\depth<=8:=g.depth;have e:=b.1.1;have c:=b.1.2 0 o_;have r:=b.2.1.1;have j:0<=f (Pu.aU p.ents 0).toNat/\f (Pu.aU p.ents 0).toNat<p.code.length:=g.f0 (Pu.aU p.ents 0).toNat (by show (Pu.aU p.ents 0).toNat<p.code.length;omega);have q:((0:Int)+1)*(p.code.length:Int)=p.code.length:=by rw[Int.zero_add,Int.one_mul]
 have n:(0:Int)*Pu.rM (xR p a depth)=0:=Int.zero_mul _;have k:=b.2.2.1.1;refine⟨Int.le_refl _,⟨Int.le_refl _,by show (0:Int)<=a;omega⟩,by show (0:Int)+0<=(0:Nat);omega,⟨Int.le_refl _,Int.le_refl _⟩,⟨c.1,by show Pu.aU p.ents 0<=p.code.length;omega⟩,⟨Int.le_refl _,by show (0:Int)<=255;omega⟩,⟨Int.le_refl _,by show (0:Int)<p.rules.length;omega⟩,⟨Int.le_refl _,by show (0:Int)<p.ents.length;omega⟩,⟨rfl,fun i h=>?_⟩,⟨Int.le_refl _,d.1⟩,⟨Int.le_refl _,by show (1:Int)<=0+1;omega⟩,⟨Int.le_refl _,by show (1:Int)<=0+1;omega⟩,⟨Int.le_refl _,?_⟩,fun _=>⟨c.2,?_⟩,⟨Int.le_refl _,by show (0:Int)<=7;omega⟩,Int.le_refl _⟩
 .have:Pu.aU (List.replicate 8 0) i=0:=by
   match i,h with
   | 0,_=>rfl
   | 1,_=>rfl
   | 2,_=>rfl
   | 3,_=>rfl
   | 4,_=>rfl
   | 5,_=>rfl
   | 6,_=>rfl
   | 7,_=>rfl
  show 0<=Pu.aU (List.replicate 8 0) i/\Pu.aU (List.replicate 8 0) i<p.ents.length;rw[this];omega
 .show (0:Int)<=0*Pu.rM (xR p a depth)+(0+1)*p.code.length;omega
 .show (0:Int)+f (Pu.aU p.ents 0).toNat+1<=0*Pu.rM (xR p a depth)+(0+1)*p.code.length;omega
def beginC(ve vr vc:V_)(a depth x:Int):Array V_:=
 #[ve,vr,vc,I_ a,I_ depth,I_ 0,I_ 1,I_ 1,I_ 0,I_ 0,I_ 0,I_ 0,I_ 0,I_ 0,I_ 0,I_ 0,I_ 0,I_ 0,I_ 0,
  I_ x,I_ 0,I_ 0,I_ 0,I_ 0,n_,.bool false,I_ 0]
theorem beginC_ok(c:Option Addr)(ne h:Nat)(d:Option Addr)(k i:Nat)(b:Option Addr)(j e:Nat)(a depth x:Int):(beginC (.slice c ne h) (.slice d k i) (.slice b j e) a depth x).all (·.oneCell')=true:=k_
theorem step_store_row{P:Program}{o:Oper}{a:Act}{K:Act->W_->Prop}{Q:Exit->Act->W_->Prop}{E:Prop}(d:o.guard=none)(e:TypeId)(x y:Operand)(l:o.op=.store e x y)
  (g:Nat) (cells:Array V_) (p:a.eval x=p_ g) (q:a.eval y=.agg cells)
  (t:TypeId) (b:Array V_) (j:w.heap[g]?=some (c_ b t (0,0))) (k:(P.info? e).map (·.size)=some cells.size)
  (c:b.size=cells.size) (i:cells.all (·.oneCell')=true)
  (h:K (a.put o.dst undef) (w.setRow g cells)):if Region.wanted o (yielded ops a.tmps)=true then Oper.wp P o a w K Q else E:=by
 have n:Region.wanted o (yielded ops a.tmps)=true:=by simp[Region.wanted,d]
 rw[if_pos n];exact wp_store_row e x y l g cells p q t b j k c i h
theorem Un{P:Program}{o:Oper}{a:Act}{K:Act->W_->Prop}{Q:Exit->Act->W_->Prop}{E:Prop}(b:o.guard=none)(t:TypeId)(parts:Array (Nat × Operand))(d:o.op=.build t parts)
  (cells:Array V_) (c:P.built t (parts.map fun (i,x)=>(i,a.eval x)).toList=some cells)
  (h:K (a.put o.dst (.agg cells)) w):if Region.wanted o (yielded ops a.tmps)=true then Oper.wp P o a w K Q else E:=by
 have e:Region.wanted o (yielded ops a.tmps)=true:=by simp[Region.wanted,b]
 rw[if_pos e];refine wp_build t parts d (by rw[c];rfl) ?_;rw[c];exact h
theorem ry{c:Func}{p:Tmp}{d:TypeId}(h:c.results=#[.cell p d])(b:Array V_)(P:Program)(w:W_) :
  (results c b).run P w=((asAddr (b.getD p undef)).run P w).andThen fun a e=>(loadVar d a).run P e:=by
 simp only[results,h];simp[Sem.run_bind,Result.andThen]
theorem Tryz.size115 : (prog.info? 115).map (·.size)=some 27:=k_
theorem TZ(ge ce:Nat)(ar:Option Addr)(nr cr:Nat)(ac:Option Addr)(nc cc:Nat)(p:lZ)(most depth:Int)(w:W_)(hE:w.cell? (a_ ge 0)=some (I_ (Pu.aU p.ents 0)))(hn:1<=p.ents.length)(_hc:p.ents.length<=ce)(_hc2:ce<=9223372036854775807) :
  Calls prog 47 #[.agg #[s_ ge p.ents.length ce,.slice ar nr cr,.slice ac nc cc],I_ most,I_ depth] w (Al (.agg (beginC (s_ ge p.ents.length ce) (.slice ar nr cr) (.slice ac nc cc) most depth (Pu.aU p.ents 0))) w):=by
 have hlt:=World.block_lt_of_cell? w (a_ ge 0) hE;simp only at hlt;have n1:ge≠w.heap.size:=o_;have n2:ge≠w.heap.size+1:=o_;have n1':w.heap.size≠ge:=o_;have n2':w.heap.size+1≠ge:=o_;have n3:w.heap.size+1≠w.heap.size:=o_;have n3':w.heap.size≠w.heap.size+1:=o_;have hi:(0:Int)<p.ents.length:=o_;generalize Pu.aU p.ents 0=x at *;generalize p.ents.length=ne at *;have hn0:0<ne:=o_;go_in;go_wp2_with fail;have hB:=bL (((Br_ w.heap.size w).alloc dF (c_ #[s_ ge ne ce,.slice ar nr cr,.slice ac nc cc] 42)).alloc i_ (c_ #[n_,n_,n_,I_ 0,I_ 0,I_ 0,I_ 0,I_ 0,I_ 0,I_ 0,I_ 0,I_ 0,I_ 0,I_ 0,I_ 0,I_ 0,I_ 0,I_ 0,I_ 0,I_ 0,I_ 0,I_ 0,I_ 0,I_ 0,n_,.bool false,I_ 0] 115));have KP:dh ((w.alloc (c_ #[s_ ge ne ce,.slice ar nr cr,.slice ac nc cc] 42)).alloc (c_ #[n_,n_,n_,I_ 0,I_ 0,I_ 0,I_ 0,I_ 0,I_ 0,I_ 0,I_ 0,I_ 0,I_ 0,I_ 0,I_ 0,I_ 0,I_ 0,I_ 0,I_ 0,I_ 0,I_ 0,I_ 0,I_ 0,I_ 0,n_,.bool false,I_ 0] 115)) w.heap.size 42 [s_ ge ne ce,.slice ar nr cr,.slice ac nc cc]:=cO (hn_ _ _) _;have KR:dh ((w.alloc (c_ #[s_ ge ne ce,.slice ar nr cr,.slice ac nc cc] 42)).alloc (c_ #[n_,n_,n_,I_ 0,I_ 0,I_ 0,I_ 0,I_ 0,I_ 0,I_ 0,I_ 0,I_ 0,I_ 0,I_ 0,I_ 0,I_ 0,I_ 0,I_ 0,I_ 0,I_ 0,I_ 0,I_ 0,I_ 0,I_ 0,n_,.bool false,I_ 0] 115)) (w.heap.size+1) 115 [n_,n_,n_,I_ 0,I_ 0,I_ 0,I_ 0,I_ 0,I_ 0,I_ 0,I_ 0,I_ 0,I_ 0,I_ 0,I_ 0,I_ 0,I_ 0,I_ 0,I_ 0,I_ 0,I_ 0,I_ 0,I_ 0,I_ 0,n_,.bool false,I_ 0]:=by have:=hn_ (w.alloc (c_ #[s_ ge ne ce,.slice ar nr cr,.slice ac nc cc] 42)) (c_ #[n_,n_,n_,I_ 0,I_ 0,I_ 0,I_ 0,I_ 0,I_ 0,I_ 0,I_ 0,I_ 0,I_ 0,I_ 0,I_ 0,I_ 0,I_ 0,I_ 0,I_ 0,I_ 0,I_ 0,I_ 0,I_ 0,I_ 0,n_,.bool false,I_ 0] 115);rw[wa_]at this;exact this
 have hE':=(hB.o.cell (p:=(a_ ge 0)) hlt).trans hE;generalize (w.alloc (c_ #[s_ ge ne ce,.slice ar nr cr,.slice ac nc cc] 42)).alloc (c_ #[n_,n_,n_,I_ 0,I_ 0,I_ 0,I_ 0,I_ 0,I_ 0,I_ 0,I_ 0,I_ 0,I_ 0,I_ 0,I_ 0,I_ 0,I_ 0,I_ 0,I_ 0,I_ 0,I_ 0,I_ 0,I_ 0,I_ 0,n_,.bool false,I_ 0] 115)=W0 at *;have p0:=bQ 0 KP rfl;have p1:=bQ 1 KP rfl;have p2:=bQ 2 KP rfl;have T1:Hid ((W0.drew.setRow (w.heap.size+1) (beginC (s_ ge ne ce) (.slice ar nr cr) (.slice ac nc cc) most depth x)).cell? (a_ w.heap.size 0)=some (s_ ge ne ce)/\(W0.drew.setRow (w.heap.size+1) (beginC (s_ ge ne ce) (.slice ar nr cr) (.slice ac nc cc) most depth x)).cell? (a_ w.heap.size 1)=some (.slice ar nr cr)/\(W0.drew.setRow (w.heap.size+1) (beginC (s_ ge ne ce) (.slice ar nr cr) (.slice ac nc cc) most depth x)).cell? (a_ w.heap.size 2)=some (.slice ac nc cc)/\(W0.drew.setRow (w.heap.size+1) (beginC (s_ ge ne ce) (.slice ar nr cr) (.slice ac nc cc) most depth x)).cell? (a_ ge 0)=some (I_ x)):=
  ⟨(cell_setRow_other _ _ _ _ n3').trans p0,(cell_setRow_other _ _ _ _ n3').trans p1,(cell_setRow_other _ _ _ _ n3').trans p2,(cell_setRow_other _ _ _ _ n2).trans hE'⟩
 have hB2:Hid (B_ w (W0.drew.setRow (w.heap.size+1) (beginC (s_ ge ne ce) (.slice ar nr cr) (.slice ac nc cc) most depth x))):=⟨hB.o.os,hB.o.tape,hB.o.output,by simpa using hB.o.size,fun k hk=>by
  rw[setRow_other _ _ _ _ o_];exact hB.o.block k hk⟩
 have KF:Hid ((W0.drew.setRow (w.heap.size+1) (beginC (s_ ge ne ce) (.slice ar nr cr) (.slice ac nc cc) most depth x)).heap[w.heap.size+1]?=some (c_ (beginC (s_ ge ne ce) (.slice ar nr cr) (.slice ac nc cc) most depth x) 115 (0,0))):=setRow_heap W0.drew _ _ _ _ _ KR;clear KP hB hE;refine wd_ (S:=fun w'=>w'.cell? (a_ w.heap.size 0)=some (s_ ge ne ce)/\w'.cell? (a_ w.heap.size 1)=some (.slice ar nr cr)/\w'.cell? (a_ w.heap.size 2)=some (.slice ac nc cc)/\w'.cell? (a_ ge 0)=some (I_ x)) k_ ⟨p0,p1,p2,hE'⟩ (fun dK=>?_)
 refine wpAnyH_take (i := 0) (oi := { dst := some 7, op := .load 42 (.tmp 3), type := 42, pos := "scan.go:38", after := #[], guard := none }) (v := ?v0) rfl (by kernel_rfl) (by kernel_rfl) (by kernel_rfl) (fun _ _ _ h => h) (Or.inl ⟨by rfl, ?hy0⟩) (by assumption) ?rest0
 case hy0=>(intro w hSw;(try dsimp only at hSw);go_simp;try (with_reducible rfl))
 try simp only[Act.put,sb_,sz_,ss_]
 refine wpAnyH_take (i := 1) (oi := { dst := some 8, op := .move (.tmp 1), type := 3, pos := "scan.go:38", after := #[], guard := none }) (v := ?v1) rfl (by kernel_rfl) (by kernel_rfl) (by kernel_rfl) (fun _ _ _ h => h) (Or.inl ⟨by rfl, ?hy1⟩) (by assumption) ?rest1
 case hy1=>(intro w hSw;(try dsimp only at hSw);go_simp;try (with_reducible rfl))
 try simp only[Act.put,sb_,sz_,ss_]
 refine wpAnyH_take (i := 2) (oi := { dst := some 9, op := .move (.tmp 2), type := 3, pos := "scan.go:38", after := #[], guard := none }) (v := ?v2) rfl (by kernel_rfl) (by kernel_rfl) (by kernel_rfl) (fun _ _ _ h => h) (Or.inl ⟨by rfl, ?hy2⟩) (by assumption) ?rest2
 case hy2=>(intro w hSw;(try dsimp only at hSw);go_simp;try (with_reducible rfl))
 try simp only[Act.put,sb_,sz_,ss_]
 refine wpAnyH_take (i := 3) (oi := { dst := some 10, op := .fieldAddr 42 (.tmp 3) 0, type := 0, pos := "scan.go:38", after := #[], guard := none }) (v := ?v3) rfl (by kernel_rfl) (by kernel_rfl) (by kernel_rfl) (fun _ _ _ h => h) (Or.inl ⟨by rfl, ?hy3⟩) (by assumption) ?rest3
 case hy3=>(intro w hSw;(try dsimp only at hSw);go_simp;try (with_reducible rfl))
 try simp only[Act.put,sb_,sz_,ss_]
 refine wpAnyH_take (i := 4) (oi := { dst := some 11, op := .load 31 (.tmp 10), type := 31, pos := "scan.go:38", after := #[{ on := 3, ground := .data }], guard := none }) (v := ?v4) rfl (by kernel_rfl) (by kernel_rfl) (by kernel_rfl) (fun _ _ _ h => h) (Or.inl ⟨by rfl, ?hy4⟩) (by assumption) ?rest4
 case hy4=>(intro w hSw;(try dsimp only at hSw);go_simp;try (with_reducible rfl))
 try simp only[Act.put,sb_,sz_,ss_]
 refine wpAnyH_take (i := 5) (oi := { dst := some 12, op := .indexAddr 31 (.tmp 11) (.const (.int .i64 0)), type := 0, pos := "scan.go:38", after := #[{ on := 4, ground := .data }], guard := none }) (v := ?v5) rfl (by kernel_rfl) (by kernel_rfl) (by kernel_rfl) (fun _ _ _ h => h) (Or.inl ⟨by rfl, ?hy5⟩) (by assumption) ?rest5
 case hy5=>(intro w hSw;(try dsimp only at hSw);go_simp;try (with_reducible rfl))
 try simp only[Act.put,sb_,sz_,ss_]
 refine wpAnyH_take (i := 6) (oi := { dst := some 13, op := .load 3 (.tmp 12), type := 3, pos := "scan.go:38", after := #[{ on := 5, ground := .data }], guard := none }) (v := ?v6) rfl (by kernel_rfl) (by kernel_rfl) (by kernel_rfl) (fun _ _ _ h => h) (Or.inl ⟨by rfl, ?hy6⟩) (by assumption) ?rest6
 case hy6=>(intro w hSw;(try dsimp only at hSw);go_simp;try (with_reducible rfl))
 try simp only[Act.put,sb_,sz_,ss_]
 refine wpAnyH_take (i := 7) (oi := { dst := some 14, op := .build 113 #[(0, .tmp 13)], type := 113, pos := "scan.go:38", after := #[{ on := 6, ground := .data }], guard := none }) (v := ?v7) rfl (by kernel_rfl) (by kernel_rfl) (by kernel_rfl) (fun _ _ _ h => h) (Or.inl ⟨by rfl, ?hy7⟩) (by assumption) ?rest7
 case hy7=>(intro w hSw;(try dsimp only at hSw);go_simp;try (with_reducible rfl))
 try simp only[Act.put,sb_,sz_,ss_]
 refine wpAnyH_ready (rs:=[8]) k_ i_ ?_
 refine AllReadyH.cons (o := { dst := some 15, op := .build 115 #[(0, .tmp 7), (1, .tmp 8), (2, .tmp 9), (4, .const (.int .i64 1)), (5, .const (.int .i64 1)), (10, .tmp 14)], type := 115, pos := "scan.go:38", after := #[{ on := 0, ground := .data }, { on := 1, ground := .data }, { on := 2, ground := .data }, { on := 7, ground := .data }], guard := none }) rfl (fun K hK => ?_) AllReadyH.nil
 refine Un rfl 115 _ rfl (beginC (s_ ge ne ce) (.slice ar nr cr) (.slice ac nc cc) most depth x) k_ ?_;refine hK.out _ _ dK (fun gG=>?_);clear hK K
 try simp only[Act.put,sb_,sz_,ss_]
 refine wpAnyH_ready (rs:=[9]) k_ i_ ?_
 refine AllReadyH.cons (o := { dst := none, op := .store 115 (.tmp 6) (.tmp 15), type := 0, pos := "scan.go:38", after := #[{ on := 8, ground := .data }, { on := 0, ground := .phase }, { on := 1, ground := .phase }, { on := 2, ground := .phase }, { on := 3, ground := .phase }, { on := 4, ground := .phase }, { on := 5, ground := .phase }, { on := 6, ground := .phase }, { on := 7, ground := .phase }, { on := 8, ground := .phase }], guard := none }) rfl (fun K hK => step_store_row rfl 115 (.tmp 6) (.tmp 15) rfl (w.heap.size + 1) (beginC (.slice (some ⟨ge, 0, none⟩) ne ce) (.slice ar nr cr) (.slice ac nc cc) most depth x) rfl rfl 115 _ KR Tryz.size115 rfl (beginC_ok _ _ _ _ _ _ _ _ _ _ _ _) (hK.out _ _ T1.o (fun _ => ?_))) AllReadyH.nil
 refine wpAnyH_done k_ ?_ _;clear T1 dK gG KR p0 p1 p2 hE';generalize W0.drew.setRow (w.heap.size+1) (beginC (s_ ge ne ce) (.slice ar nr cr) (.slice ac nc cc) most depth x)=W1 at *;go_wp2;refine br_ (v:=.agg (beginC (s_ ge ne ce) (.slice ar nr cr) (.slice ac nc cc) most depth x)) ?_ rfl ⟨rfl,hB2.o⟩;rw[ry results47];exact run_loadVar_row W1 (w.heap.size+1) 115 115 (beginC (s_ ge ne ce) (.slice ar nr cr) (.slice ac nc cc) most depth x) (0,0) _ KF.o underlying115 rfl size115
def rX(s:Y_)(a depth:Int):Prop:=(Form s/\gu (eG s))/\(1<=a/\a<=64)/\(0<=depth/\depth<=8)
theorem El{P:Program}{rest:List Oper}{o:Oper}{a:Act}{Q:Exit->Act->W_->Prop}(c:o.guard=none)(t:TypeId)(parts:Array (Nat × Operand))(d:o.op=.build t parts)
  (cells:Array V_) (b:P.built t (parts.map fun (i,x)=>(i,a.eval x)).toList=some cells)
  (h:wpList P ops Q rest (a.put o.dst (.agg cells)) w):wpList P ops Q (o::rest) a w:=by
 refine wpList_build c t parts d (by rw[b];rfl) ?_;rw[b];exact h
theorem NN(ve vr vc:V_)(p:lZ)(a depth:Int):(beginC ve vr vc a depth (Pu.aU p.ents 0)).toList=lI ve vr vc n_ a depth (rP p) false 0:=rfl
end Go.Proofs.YtmccnmgaoppogabGreat
