import Derived.Test.YtmccnmgaoppogabGreatuKac
import Derived.Laws.AppendOwnNone
import Derived.Deep.LoopGhost
import Derived.Deep.DeepCutAuto
import Derived.Deep.WholeRow
import Derived.Deep.MidRow
namespace Go.Proofs.YtmccnmgaoppogabGreat
open Pu
set_option linter.all false
open Go.Proofs.Tryz Tryz
set_option maxRecDepth 100000
set_option maxHeartbeats 8000000
open Go.RowKit
variable {g t:Nat} {xs:List V_}
def mY(v:V_)(w:W_)(e:Ending)(w':W_):Prop:=e=.returned v/\B_ w w'
def bZ(l:List Nat):List V_:=l.map (fun (n:Nat)=>I_ n)
theorem iE(l:List Nat):(bZ l).length=l.length:=by simp[bZ]
theorem iQ{l:List Nat}{i x:Nat}(h:l[i]?=some x):(bZ l)[i]?=some (I_ x):=by simp[bZ,h]
theorem xh(a b:List Nat):bZ (a++b)=bZ a++bZ b:=by simp[bZ]
def fe(w:W_)(v:V_)(l:List Nat):Prop:=w.ownsRow 0 3 1 v l.length (bZ l)
section
variable {w w':W_} {v:V_} {l:List Nat}
theorem fe.form(h:fe w v l):∃b a,v=.slice b l.length a/\l.length<=a/\a<=9223372036854775807/\(b=none->a=0):=by
 rcases h.2 with ⟨rfl,d⟩ | ⟨g,a,c,rfl,_,_,f,i,_⟩
 .exact⟨none,0,by rw[d],o_,o_,fun _=>rfl⟩
 .exact⟨some (a_ g 0),a,rfl,f,i,fun e=>by cases e⟩
theorem fe.some{b:Option Addr}{n a:Nat}(h:fe w (.slice b n a) l)(d:0<l.length):∃g,b=.some (a_ g 0)/\g<w.heap.size/\∀(j x:Nat),l[j]?=.some x->w.cell? (a_ g j)=.some (I_ x):=by
 obtain⟨g,c,e,_,_⟩:=dL h d;cases e;exact⟨g,rfl,(iN h).2,fun j x f=>bV h (iQ f)⟩
theorem fe.below(h:fe w v l)(a:B_ w w'):fe w' v l:=bW h a dF
theorem fe.nil(w:W_):fe w n_ []:=iR _ _ _ _
end
theorem acy:(prog.info? 3).map (·.size)=some 1:=k_
def Oc(b:Option Addr)(c i:Nat):Option Addr:=if c=i then b else b.map (fun a=>a.add i)
theorem Ar(b:Option Addr)(n c i:Nat)(j:i<=n)(s:n<=c)(r:b=none->c=0)(w:W_):(Instr.slice 31 (.slice b n c) (some (I_ i)) none none).run prog w=.ok (.slice (Oc b c i) (n-i) (c-i)) w:=by
 have d:=acy;unfold Oc;cases hq:prog.info? 3 with
 | none=>simp[hq]at d
 | some k=>
  have q:k.size=1:=by simpa [hq]using d
  cases b with
  | none=>
   have:=r rfl;subst this;have e:n=0:=o_;have f:i=0:=o_;subst e f;simp[go_sem,underlying31,sizeOf,typeInfo,hq]
  | some a=>
   by_cases p:c=i;all_goals
    simp[go_sem,underlying31,sizeOf,typeInfo,hq,q,j,p]
def Src(w:W_)(s:Option Addr)(m c:Nat)(l:List Nat):Prop:=m=l.length/\((s=none/\m=0/\c=0)\/∃a,s=some a/\∀(j x:Nat),l[j]?=some x->w.cell? (a.add j)=some (I_ x))
theorem fe.cut{w:W_}{d:Option Addr}{n b:Nat}{l:List Nat}(h:fe w (.slice d n b) l){i:Nat}(s:i<=l.length):Src w (Oc d b i) (n-i) (b-i) (l.drop i):=by
 obtain⟨k,f,e,r,_,p⟩:=h.form;cases e;refine⟨i_,?_⟩;unfold Oc;cases d with
 | none=>have:=p rfl;left;refine⟨by split <;> rfl,o_,o_⟩
 | some a=>
  right;split
  .refine⟨a,rfl,fun j x c=>?_⟩;rw[List.drop_eq_nil_of_le o_]at c;cases c
  .refine⟨a.add i,rfl,fun j x c=>?_⟩;rw[List.getElem?_drop]at c;have u:=(ge_.1 c).1;obtain⟨g,e,_,q⟩:=h.some o_;cases e;rw[add_eq,add_eq,Nat.zero_add];exact q _ _ c
theorem gI{w:W_}{i:Array Oper}{rest:List Oper}{o:Oper}{a:Act}{Q:Exit->Act->W_->Prop}(f:o.guard=none)(s x:Operand)
  (B:o.op=.call { callee:=.builtin .append,args:=#[s,x],argTypes:=#[31,31] }) (base:Nat) (v:V_) (u l:List Nat) (C:a.eval s=v) (n:w.ownsRow base 3 1 v u.length (bZ u))
  (E:Option Addr) (m c:Nat) (D:a.eval x=.slice E m c) (b:Src w E m c l) (J:u.length+l.length<=1000000000000) (I:base<=w.heap.size)
  (h:∀k w',w'.ownsRow base 3 1 k (u++l).length (bZ (u++l))->w.grownBy w' v.ownBlock->wpList prog i Q rest (a.put o.dst k) w'):wpList prog i Q (o::rest) a w:=by
 obtain⟨aS,A,p,q,r⟩:=ip_ inff3;obtain⟨rfl,b⟩:=b;rcases b with ⟨rfl,H,rfl⟩ | ⟨F,rfl,G⟩
 .have e:l=[]:=List.eq_nil_of_length_eq_zero H;subst e;refine wpList_append_own_none f s x 31 B base 3 aS 1 underlying31 A v u.length (bZ u) C n D (h v w ?_ (World.grownBy.refl _ _));simpa using n
 .refine wo_ _ f s x 31 B base 3 aS (I_ 0) 1 8 underlying31 A p q r rfl d_ v u.length (bZ u) C n F l.length c (bZ l) D (by simp[iE]) ?_ ?_ (by unfold maxLen;omega) o_ I ?_
  .intro j y d;cases hl:l[j]? with
   | none=>simp[bZ,hl]at d
   | some z=>rw[iQ hl]at d;cases d;exact G j z hl
  .intro y d;simp only[bZ,List.mem_map]at d;obtain⟨z,_,rfl⟩:=d;rfl
  .intro k w' d e _;refine h k w' ?_ e;rw[la_,xh];exact d
theorem qh(va vb:V_)(a b:List Nat)(w:W_)(L:fe w va a)(N:fe w vb b)(la:a.length<=1000000)(lb:b.length<=1000000) :
  Calls prog 128 #[va,vb] w (Ky 3 1 (Pu.un a b).length (bZ (Pu.un a b)) w):=by
 obtain⟨aS,hi,O,Q,R⟩:=ip_ inff3;obtain⟨E,A,rfl,V,a2,X⟩:=L.form;obtain⟨F,B,rfl,Y,b2,Z⟩:=N.form;have I:=bL L;have J:=bL N;clear L N;go_in;go_wp2_with (at_make;refine wpList_make_own _ rfl _ _ 31 rfl w.heap.size 3 aS (I_ 0) 1 underlying31 hi O Q _ _ _ (a.length+b.length) rfl rfl o_ (by rw[R];omega) (by unfold maxLen;omega) dF ?_;intro w1 e d);have c:B_ w w1:=(Br_ _ _).grown d dF (fun k h=>by cases h);have k:=bL e;clear e d;go_loopg [5,6,7] (a.length+b.length) (fun gk d e n wr=>∃(i j:Nat) (u:List Nat) (f:V_),d=f/\e=I_ i/\n=I_ j/\i<=a.length/\j<=b.length/\gk=a.length+b.length-i-j/\u.length<=i+j/\Pu.un a b=u++Pu.un (a.drop i) (b.drop j)/\B_ w wr/\wr.ownsRow w.heap.size 3 1 f u.length (bZ u));exact⟨0,0,[],_,rfl,rfl,rfl,zl_ _,zl_ _,rfl,zl_ _,rfl,c,k.o⟩;clear k c;obtain⟨i,j,u,f,rfl,rfl,rfl,s,z,rfl,hul,d,c,e⟩:=hrel;have k:=bL e;have D:=bL c;have G:=bL d;clear e d;by_cases h1:i<a.length
 .by_cases h2:j<b.length
  .have d1:=oL i a.length;have d2:=oL j b.length;obtain⟨x,hx⟩:=rG a i h1;obtain⟨y,hy⟩:=rG b j h2;have r:a.drop i=x::a.drop (i+1):=by rw[List.drop_eq_getElem?_toList_append,hx];rfl
   have K:b.drop j=y::b.drop (j+1):=by rw[List.drop_eq_getElem?_toList_append,hy];rfl
   obtain⟨U,ea,gl,d⟩:=I.o.some o_;obtain⟨gb,eb,hl,e⟩:=J.o.some o_;subst ea eb;have xa:wr.cell? (a_ U i)=some (I_ x):=(c.cell (p:=(a_ U i)) gl).trans (d i x hx);have yb:wr.cell? (a_ gb j)=some (I_ y):=(c.cell (p:=(a_ gb j)) hl).trans (e j y hy);have wi:=kZ i;have wj:=kZ j;have sz:=c.size;clear d e c;rcases Nat.lt_trichotomy x y with hxy | hxy | hxy
   .have S:=oL x y;go_wp2_with fail;go_region;go_wp2_with (at_builtin;go_must (refine gI rfl (.tmp 45) (.tmp 50) rfl w.heap.size _ u [x] rfl (oa_ (World.ownsRow.drew k.o) _) (some (a_ wr.heap.size 0)) 1 1 rfl ⟨rfl,.inr ⟨_,rfl,fun q x0 d=>jc (xs:=[I_ x]) rfl q _ (by cases q with | zero=>simp at d;subst d;rfl | succ q=>simp at d)⟩⟩ (by simp;omega) (by simp;omega) ?_);intro H C n e);have d:B_ w C:=((D.o.drew).alloc sz _).grown e (by simp;omega) (fun q h=>(ol_ k.o q h).1);have q:(u++[x]).length=u.length+1:=i_;clear e;go_roundg (a.length+b.length-(i+1)-j);exact⟨i+1,j,u++[x],_,rfl,by go_num,rfl,o_,o_,o_,o_,by rw[G.o,r,K,acS hxy];simp,d,n⟩;omega
   focus
    subst hxy;have S:=nI x x;go_wp2_with fail;go_region;go_wp2_with fail;go_region;go_wp2_with (at_builtin;go_must (refine gI rfl (.tmp 24) (.tmp 29) rfl w.heap.size _ u [x] rfl (oa_ (World.ownsRow.drew (World.ownsRow.drew k.o)) _) (some (a_ wr.heap.size 0)) 1 1 rfl ⟨rfl,.inr ⟨_,rfl,fun q x0 d=>jc (xs:=[I_ x]) rfl q _ (by cases q with | zero=>simp at d;subst d;rfl | succ q=>simp at d)⟩⟩ (by simp;omega) (by simp;omega) ?_);intro H C n e)
   rotate_left;focus
    have S:=nI x y;have c2:=oL y x;go_wp2_with fail;go_region;go_wp2_with fail;go_region;go_wp2_with (at_builtin;go_must (refine gI rfl (.tmp 64) (.tmp 69) rfl w.heap.size _ u [y] rfl (oa_ (World.ownsRow.drew (World.ownsRow.drew k.o)) _) (some (a_ wr.heap.size 0)) 1 1 rfl ⟨rfl,.inr ⟨_,rfl,fun q x0 d=>jc (xs:=[I_ y]) rfl q _ (by cases q with | zero=>simp at d;subst d;rfl | succ q=>simp at d)⟩⟩ (by simp;omega) (by simp;omega) ?_);intro H C n e)
   rotate_left;all_goals
    have d:B_ w C:=((D.o.drew.drew).alloc sz _).grown e (by simp;omega) (fun q h=>(ol_ k.o q h).1)
   .have q:(u++[x]).length=u.length+1:=i_;clear e;go_roundg (a.length+b.length-(i+1)-(j+1));exact⟨i+1,j+1,u++[x],_,rfl,by go_num,by go_num,o_,o_,o_,o_,by rw[G.o,r,K,acQ];simp,d,n⟩;omega
   .have q:(u++[y]).length=u.length+1:=i_;clear e;go_roundg (a.length+b.length-i-(j+1));exact⟨i,j+1,u++[y],_,rfl,rfl,by go_num,o_,o_,o_,o_,by rw[G.o,r,K,acR hxy];simp,d,n⟩;omega
  .have d1:=oL i a.length;have d2:=nI j b.length;have S:∀w,(Instr.slice 31 (.slice E a.length A) (some (I_ i)) none none).run prog w=.ok (.slice (Oc E A i) (a.length-i) (A-i)) w:=fun w=>Ar E a.length A i s V X w;have sb:∀w,(Instr.slice 31 (.slice F b.length B) (some (I_ j)) none none).run prog w=.ok (.slice (Oc F B j) (b.length-j) (B-j)) w:=fun w=>Ar F b.length B j z Y Z w;have sz:=c.size;have ql:u.length+(a.drop i).length<=10000000:=by simp;omega
   have K:(u++a.drop i).length+(b.drop j).length<=10000000:=by simp;omega
   clear c;go_upto_region 14 with (at_builtin;refine gI rfl (.tmp 73) (.tmp 76) rfl w.heap.size _ u (a.drop i) rfl k.o _ _ _ rfl ((I.o.below D.o).cut s) o_ sz ?_;intro H C n e;clear S);have d:B_ w C:=D.o.grown e sz (fun q h=>(ol_ k.o q h).1);have r:=d.size;clear e;go_wp2_with (at_builtin;go_must (refine gI rfl (.tmp 78) (.tmp 81) rfl w.heap.size _ (u++a.drop i) (b.drop j) rfl n _ _ _ rfl ((J.o.below d).cut z) o_ r ?_);intro v3 U y x);have e:B_ w U:=d.grown x r (fun q h=>(ol_ n q h).1);clear x;go_ret;refine⟨_,rfl,e,?_⟩;have q:Pu.un a b=u++a.drop i++b.drop j:=by rw[G.o,show b.drop j=[] from List.drop_eq_nil_of_le o_,MI];simp
   rw[q];exact y
 .have d1:=nI i a.length;have S:∀w,(Instr.slice 31 (.slice E a.length A) (some (I_ i)) none none).run prog w=.ok (.slice (Oc E A i) (a.length-i) (A-i)) w:=fun w=>Ar E a.length A i s V X w;have sb:∀w,(Instr.slice 31 (.slice F b.length B) (some (I_ j)) none none).run prog w=.ok (.slice (Oc F B j) (b.length-j) (B-j)) w:=fun w=>Ar F b.length B j z Y Z w;have sz:=c.size;have ql:u.length+(a.drop i).length<=10000000:=by simp;omega
  have K:(u++a.drop i).length+(b.drop j).length<=10000000:=by simp;omega
  clear c;go_upto_region 14 with (at_builtin;refine gI rfl (.tmp 73) (.tmp 76) rfl w.heap.size _ u (a.drop i) rfl k.o _ _ _ rfl ((I.o.below D.o).cut s) o_ sz ?_;intro H C n e;clear S);have d:B_ w C:=D.o.grown e sz (fun q h=>(ol_ k.o q h).1);have r:=d.size;clear e;go_wp2_with (at_builtin;go_must (refine gI rfl (.tmp 78) (.tmp 81) rfl w.heap.size _ (u++a.drop i) (b.drop j) rfl n _ _ _ rfl ((J.o.below d).cut z) o_ r ?_);intro v3 U y x);have e:B_ w U:=d.grown x r (fun q h=>(ol_ n q h).1);clear x;go_ret;refine⟨_,rfl,e,?_⟩;have q:Pu.un a b=u++a.drop i++b.drop j:=by rw[G.o,show a.drop i=[] from List.drop_eq_nil_of_le o_,acT];simp
  rw[q];exact y
theorem abU(C D:V_)(a b:List Nat)(w:W_)(q:fe w C a)(r:fe w D b)(la:a.length<=1000000)(lb:b.length<=1000000) :
  Calls prog 97 #[C,D] w (mY (.bool (Pu.meet a b)) w):=by
 obtain⟨V,ca,rfl,R,S,U⟩:=q.form;obtain⟨X,cb,rfl,Y,Z,b3⟩:=r.form;have E:=bL q;have F:=bL r;clear q r;go_in;go_wp2_with fail;go_loopg [5,6] (a.length+b.length) (fun gk c d wr=>∃(i j:Nat),c=I_ i/\d=I_ j/\i<=a.length/\j<=b.length/\gk=a.length+b.length-i-j/\Pu.meet a b=Pu.meet (a.drop i) (b.drop j)/\B_ w wr);exact⟨0,0,rfl,rfl,zl_ _,zl_ _,rfl,rfl,Br_ _ _⟩;obtain⟨i,j,rfl,rfl,N,O,rfl,f,c⟩:=hrel;have d:=bL c;have e:=bL f;clear f;by_cases K:i<a.length
 .have G:=oL i a.length;by_cases L:j<b.length
  .have H:=oL j b.length;obtain⟨x,A⟩:=rG a i K;obtain⟨y,B⟩:=rG b j L;have k:a.drop i=x::a.drop (i+1):=by rw[List.drop_eq_getElem?_toList_append,A];rfl
   have n:b.drop j=y::b.drop (j+1):=by rw[List.drop_eq_getElem?_toList_append,B];rfl
   obtain⟨u,I,J,f⟩:=E.o.some o_;obtain⟨z,eb,Q,s⟩:=F.o.some o_;subst I eb;have xa:wr.cell? (a_ u i)=some (I_ x):=(c.cell (p:=(a_ u i)) J).trans (f i x A);have yb:wr.cell? (a_ z j)=some (I_ y):=(c.cell (p:=(a_ z j)) Q).trans (s j y B);have wi:=kZ i;have wj:=kZ j;clear f s c;rcases Nat.lt_trichotomy x y with hxy | hxy | hxy
   .have s:=oL x y;go_wp2_with fail;go_region;go_wp2;go_roundg (a.length+b.length-(i+1)-j);exact⟨i+1,j,by go_num,rfl,o_,o_,o_,by rw[e.o,k,n,Vu hxy],d.o.drew⟩;omega
   .subst hxy;have s:=nI x x;go_wp2_with fail;go_region;go_wp2_with fail;go_region;go_wp2;go_ret;have f:Pu.meet a b=true:=by rw[e.o,k,n,Vs]
    rw[f];exact⟨rfl,d.o.drew.drew⟩
   .have s:=nI x y;have f:=oL y x;go_wp2_with fail;go_region;go_wp2_with fail;go_region;go_wp2;go_roundg (a.length+b.length-i-(j+1));exact⟨i,j+1,rfl,by go_num,o_,o_,o_,by rw[e.o,k,n,Vt hxy],d.o.drew.drew⟩;omega
  .have H:=nI j b.length;clear c;go_wp2;go_ret;have f:Pu.meet a b=false:=by rw[e.o,show b.drop j=[] from List.drop_eq_nil_of_le o_,Co]
   rw[f];exact⟨rfl,d.o⟩
 .have G:=nI i a.length;clear c;go_wp2;go_ret;have f:Pu.meet a b=false:=by rw[e.o,show a.drop i=[] from List.drop_eq_nil_of_le o_,Pw]
  rw[f];exact⟨rfl,d.o⟩
theorem acp(B C:V_)(a b:List Nat)(w:W_)(n:fe w B a)(q:fe w C b)(la:a.length<=1000000)(lb:b.length<=1000000) :
  Calls prog 144 #[B,C] w (mY (.bool (decide (a=b))) w):=by
 obtain⟨U,ca,rfl,Q,R,S⟩:=n.form;obtain⟨V,cb,rfl,X,Y,Z⟩:=q.form;have D:=bL n;have E:=bL q;clear n q;go_in;by_cases N:a.length=b.length
 .have G:((a.length:Int) == (b.length:Int))=true:=by simp;omega
  go_wp2_with fail;go_loopg [14] a.length (fun gk c wr=>∃(i:Nat),c=I_ i/\i<=a.length/\gk=a.length-i/\a.take i=b.take i/\B_ w wr);exact⟨0,rfl,zl_ _,rfl,rfl,Br_ _ _⟩;obtain⟨i,rfl,L,rfl,d,c⟩:=hrel;have k:=bL c;have u:=bL d;clear d;by_cases K:i<a.length
  .have H:=oL i a.length;obtain⟨x,s⟩:=rG a i K;obtain⟨y,j⟩:=rG b i;obtain⟨z,I,J,d⟩:=D.o.some o_;obtain⟨A,eb,r,e⟩:=E.o.some o_;subst I eb;have xa:wr.cell? (a_ z i)=some (I_ x):=(c.cell (p:=(a_ z i)) J).trans (d i x s);have yb:wr.cell? (a_ A i)=some (I_ y):=(c.cell (p:=(a_ A i)) r).trans (e i y j);have wi:=kZ i;have O:(i:Int)<b.length:=o_;clear d e c;by_cases f:x=y
   .have F:((x:Int) == (y:Int))=true:=by simp;omega
    go_wp2;go_roundg (a.length-(i+1));exact⟨i+1,by go_num,o_,rfl,by rw[List.take_add_one,List.take_add_one,u.o,s,j,f],k.o⟩;omega
   .have F:((x:Int) == (y:Int))=false:=by simp;omega
    go_wp2;go_ret;have d:decide (a=b)=false:=dn_ (fun e=>by subst e;rw[s]at j;cases j;exact f rfl);rw[d];exact⟨rfl,k.o⟩
  .have H:=nI i a.length;clear c;go_wp2;go_ret;have d:decide (a=b)=true:=dt_ (by
    have:=u.o;rwa[List.take_of_length_le o_,List.take_of_length_le o_]at this)
   rw[d];exact⟨rfl,k.o⟩
 .have G:((a.length:Int) == (b.length:Int))=false:=by simp;omega
  go_wp2;go_ret;have d:decide (a=b)=false:=dn_ (fun e=>N (by rw[e]));rw[d];exact⟨rfl,Br_ _ _⟩
def dD(T:Nat->Bool):List V_:=(List.range 256).map (fun n=>.bool (T n))
theorem cZ(T:Nat->Bool):(dD T).length=256:=by simp[dD]
theorem iq(T:Nat->Bool){n:Nat}(h:n<256):(dD T)[n]?=some (.bool (T n)):=by rw[dD,gm_,List.getElem?_range h];rfl
theorem Jj(T:Nat->Bool){k:Nat}(b:Bool):(dD T).set k (.bool b)=dD (fun n=>if n=k then b else T n):=by
 apply List.ext_getElem?;intro i;rw[List.getElem?_set];by_cases a:i<256
 .rw [iq _ a,iq _ a,cZ];by_cases c:k=i
  .subst c;simp[a]
  .have:¬i=k:=fun e=>c e.symm;simp[c,this]
 .rw [gn_ (by rw[cZ];omega),gn_ (by rw[cZ];omega),cZ];split
  .rw [if_neg o_]
  .rfl
theorem qQ(T:Nat->Bool):∀v∈dD T,v.oneCell'=true:=by intro v a;simp only[dD,List.mem_map]at a;obtain⟨n,_,rfl⟩:=a;rfl
abbrev Fj(T:Nat->Bool):V_:=.agg (dD T).toArray
theorem Jk:(prog.info? 246).map (fun i=>(i.zero,i.size))=some (some (.agg (List.replicate 256 (Value.bool false)).toArray),256):=k_
theorem vE:(List.replicate 256 (Value.bool false))=dD Pu.dW:=by
 apply List.ext_getElem?;intro i;by_cases a:i<256
 .rw [iq _ a,List.getElem?_replicate_of_lt a];rfl
 .rw [gn_ (by rw[lp_];omega),gn_ (by rw[cZ];omega)]
theorem wH(w:W_):(zeroValue 246).run prog w=.ok (Fj Pu.dW) w:=by have:=(zero_of_info Jk).1 w;rw[vE]at this;exact this
theorem kW:(prog.info? 246).map (·.size)=some 256:=(zero_of_info Jk).2
theorem KZ:∀(c b a:List V_) (W:W_),dh W g t (b++a)->a.length=c.length->dh (W.setCells g b.length c) g t (b++c):=by
 intro c;induction c with
 | nil=>intro b a W h d;have:a=[]:=List.eq_nil_of_length_eq_zero d;subst this;exact h
 | cons v c i=>
  intro b a W h d;cases a with
  | nil=>simp at d
  | cons p a=>
   have f:=cK h b.length v;have e:(b++p::a).set b.length v=(b++[v])++a:=by rw[List.set_append_right _ _ dF,Nat.sub_self];simp
   rw[e]at f;have:=i (b++[v]) a _ f (by simpa using d);show dh ((W.setCell (a_ g (b.length)) v).setCells g (b.length+1) c) g t _;rw[la_,List.length_singleton]at this;simpa using this
theorem pO{W:W_}(a:List V_)(h:dh W g t xs)(b:xs.length=a.length):dh (W.setCells g 0 a) g t a:=KZ a [] xs W h b
theorem pM{c:Nat}:∀(b:List V_) (o:Nat) (W:W_),dh W g t xs->g≠c->dh (W.setCells c o b) g t xs:=by
 intro b;induction b with
 | nil=>intro o W h _;exact h
 | cons v b d=>intro o W h a;exact d (o+1) _ (bU h a o v) a
theorem lh{B:Nat}{a:W_}(c:B<=g):∀(b:List V_) (o:Nat) (W:W_),Below B a W->Below B a (W.setCells g o b):=by
 intro b;induction b with
 | nil=>intro o W h;exact h
 | cons v b d=>intro o W h;exact d (o+1) _ (h.setCell c v)
theorem eQ{W:W_}(h:dh W g t xs):W.rangeAt g 0 xs:=fun j v a=>by rw[Nat.zero_add];exact bN h a
theorem mq{W:W_}(h:dh W g t xs):W.there g 0 xs.length:=fun j a=>by rw[Nat.zero_add];refine⟨?_,bM h j⟩;rw[bN h (gg_ a)];rfl
section
variable {W:W_} {g:Nat} {T:Nat->Bool}
theorem wG(h:dh W g 246 (dD T)):(loadVar 246 (a_ g 0)).run prog W=.ok (.agg (dD T).toArray) W:=
 run_loadVar_mid W g 0 246 (dD T) _ (eQ h) underlying246 rfl (by rw[cZ];exact kW)
theorem uw(h:dh W g 246 (dD T))(a:Nat->Bool):dh (W.setCells g 0 (dD a)) g 246 (dD a):=pO (dD a) h (by rw[cZ,cZ])
end
def lW(T U:Nat->Bool)(k:Nat):Nat->Bool:=fun n=>if n<k then U n else T n
theorem vP(T U:Nat->Bool):lW T U 0=T:=by funext n;simp[lW]
theorem yh(T U:Nat->Bool):dD (lW T U 256)=dD U:=by
 apply List.ext_getElem?;intro i;by_cases a:i<256
 .rw [iq _ a,iq _ a];simp[lW,a]
 .rw [gn_ (by rw[cZ];omega),gn_ (by rw[cZ];omega)]
theorem JK(T U:Nat->Bool)(k:Nat):(dD (lW T U k)).set k (.bool (U k))=dD (lW T U (k+1)):=by
 rw[Jj];congr 1;funext n;unfold lW;by_cases h:n=k
 .subst h;simp
 .by_cases a:n<k
  .simp [h,a,Nat.lt_succ_of_lt a]
  .have:¬n<k+1:=o_;simp[h,a,this]
theorem QD(w:W_)(T U:Nat->Bool):dh ((w.alloc (c_ (dD T).toArray 246)).alloc (c_ (dD U).toArray 246)) w.heap.size 246 (dD T)/\dh ((w.alloc (c_ (dD T).toArray 246)).alloc (c_ (dD U).toArray 246)) (w.heap.size+1) 246 (dD U):=by have b:=hn_ w (c_ (dD T).toArray 246);have a:=hn_ (w.alloc (c_ (dD T).toArray 246)) (c_ (dD U).toArray 246);rw[wa_]at a;exact⟨cO b _,a⟩
theorem QI(T:Nat->Bool)(lo b:Int)(w:W_) :
  Calls prog 172 #[Fj T,I_ lo,I_ b] w (mY (Fj (Pu.wid T lo b)) w):=by
 have d:=wH;have c:=bL (QD w T Pu.dW);have e:Hid (B_ w ((w.alloc (c_ (dD T).toArray 246)).alloc (c_ (dD Pu.dW).toArray 246))):=((Br_ w.heap.size w).alloc dF _).alloc i_ _;go_in;go_wp2_with fail;clear d;go_loopg [8] 256 (fun gk i d=>∃k:Nat,k<=256/\i=I_ k/\gk=256-k/\B_ w d/\dh d w.heap.size 246 (dD (lW T (Pu.wid T lo b) k))/\dh d (w.heap.size+1) 246 (dD Pu.dW));exact⟨0,zl_ _,rfl,rfl,e.o,by rw[vP];exact c.o.1,c.o.2⟩;clear e c;obtain⟨k,F,rfl,rfl,e,c,d⟩:=hrel;have x:=bL e;have i:=bL c;have n:=bL d;clear e c d;by_cases s:k<256
 .have z:decide ((k:Int)<256)=true:=dt_ o_;have C:=jJ k;have A:(k:Int)<256:=o_;have G:=kZ k;have D:wr.cell? (a_ w.heap.size k)=some (.bool (T k)):=by have:=bN i.o (iq _ s);simpa [lW]using this
  have E:=bM i.o k;have p:Hid (dh (wr.setCell (a_ w.heap.size k) (.bool (Pu.wid T lo b k))) w.heap.size 246 (dD (lW T (Pu.wid T lo b) (k+1)))):=by have:=cK i.o k (.bool (Pu.wid T lo b k));rw[JK]at this;exact this
  have c:Hid (dh (wr.setCell (a_ w.heap.size k) (.bool (Pu.wid T lo b k))) (w.heap.size+1) 246 (dD Pu.dW)):=bU n.o o_ k _;have d:Hid (B_ w (wr.setCell (a_ w.heap.size k) (.bool (Pu.wid T lo b k)))):=x.o.setCell dF _;have y:Pu.wid T lo b k=(T k || (decide (lo<=(k:Int)) && decide ((k:Int)<=b))):=rfl;generalize Pu.wid T lo b k=u at *;generalize T k=t at *;have q:∀e r:Bool,decide (lo<=(k:Int))=e->decide ((k:Int)<=b)=r->u=(t || (e && r)):=fun e r f j=>by rw[y,f,j]
  clear y;cases t with
  | true=>
   have e:=q _ _ rfl rfl;simp only[Bool.true_or]at e;subst e;clear q;go_wp2;go_roundg (256-(k+1));exact⟨k+1,o_,by go_num,rfl,d.o,p.o,c.o⟩;omega
  | false=>
   cases f:decide (lo<=(k:Int)) with
   | false=>
    have e:=q _ _ f rfl;simp only[Bool.false_and,Bool.false_or]at e;subst e;clear q;go_wp2;go_roundg (256-(k+1));exact⟨k+1,o_,by go_num,rfl,d.o,p.o,c.o⟩;omega
   | true=>
    cases j:decide ((k:Int)<=b) with
    | false=>?_
    | true=>?_
    have e:=q _ _ f j;simp only[Bool.and_false,Bool.false_or]at e;rotate_left;focus
     have e:=q _ _ f j;simp only[Bool.and_true,Bool.false_or]at e
    all_goals
     subst e;clear q;go_wp2;go_roundg (256-(k+1));exact⟨k+1,o_,by go_num,rfl,d.o,p.o,c.o⟩;omega
 .have z:decide ((k:Int)<256)=false:=dn_ o_;have e:k=256:=o_;subst e;go_wp2_with (first | (refine wl_ rfl 246 (.tmp 3) rfl w.heap.size 0 rfl (dD (lW T (Pu.wid T lo b) 256)) _ (eQ i.o) underlying246 rfl (by rw[cZ];exact kW) ?_) | (refine ws_ rfl 246 (.tmp 6) (.tmp 27) rfl (w.heap.size+1) 0 (dD (lW T (Pu.wid T lo b) 256)).toArray rfl rfl (by have:=mq n.o;rw[cZ]at this;simpa [cZ]using this) (by simp only[List.size_toArray,cZ];exact kW) (oc_ (qQ _)) ?_));have c:=uw n.o (lW T (Pu.wid T lo b) 256);have d:=lh (a:=w) (B:=w.heap.size) (g:=w.heap.size+1) o_ (dD (lW T (Pu.wid T lo b) 256)) 0 wr x.o;have p:=wG c;refine br_ (v:=.agg (dD (lW T (Pu.wid T lo b) 256)).toArray) ?_ rfl ⟨by rw[yh],d⟩;simp[results,results172,Act.put,asAddr,p]
theorem Ff(T:Nat->Bool)(w:W_) :
  Calls prog 168 #[Fj T] w (mY (Fj (nL T)) w):=by
 have c:=wH;have b:=bL (QD w T Pu.dW);have d:Hid (B_ w ((w.alloc (c_ (dD T).toArray 246)).alloc (c_ (dD Pu.dW).toArray 246))):=((Br_ w.heap.size w).alloc dF _).alloc i_ _;go_in;go_wp2_with fail;clear c;go_loopg [4] 256 (fun gk e c=>∃k:Nat,k<=256/\e=I_ k/\gk=256-k/\B_ w c/\dh c w.heap.size 246 (dD (lW T (nL T) k))/\dh c (w.heap.size+1) 246 (dD Pu.dW));exact⟨0,zl_ _,rfl,rfl,d.o,by rw[vP];exact b.o.1,b.o.2⟩;clear d b;obtain⟨k,u,rfl,rfl,f,d,e⟩:=hrel;have j:=bL f;have b:=bL d;have c:=bL e;clear f d e;by_cases i:k<256
 .have n:decide ((k:Int)<256)=true:=dt_ o_;have q:=jJ k;have p:(k:Int)<256:=o_;have x:=kZ k;have r:wr.cell? (a_ w.heap.size k)=some (.bool (T k)):=by have:=bN b.o (iq _ i);simpa [lW]using this
  have s:=bM b.o k;have e:Hid (dh (wr.setCell (a_ w.heap.size k) (.bool (!T k))) w.heap.size 246 (dD (lW T (nL T) (k+1)))):=by have:=cK b.o k (.bool (nL T k));rw[JK]at this;exact this
  have d:Hid (dh (wr.setCell (a_ w.heap.size k) (.bool (!T k))) (w.heap.size+1) 246 (dD Pu.dW)):=bU c.o o_ k _;have f:Hid (B_ w (wr.setCell (a_ w.heap.size k) (.bool (!T k)))):=j.o.setCell dF _;go_wp2;go_roundg (256-(k+1));exact⟨k+1,o_,by go_num,rfl,f.o,e.o,d.o⟩;omega
 .have n:decide ((k:Int)<256)=false:=dn_ o_;have e:k=256:=o_;subst e;go_wp2_with (first | (refine wl_ rfl 246 (.tmp 1) rfl w.heap.size 0 rfl (dD (lW T (nL T) 256)) _ (eQ b.o) underlying246 rfl (by rw[cZ];exact kW) ?_) | (refine ws_ rfl 246 (.tmp 2) (.tmp 14) rfl (w.heap.size+1) 0 (dD (lW T (nL T) 256)).toArray rfl rfl (by have:=mq c.o;rw[cZ]at this;simpa [cZ]using this) (by simp only[List.size_toArray,cZ];exact kW) (oc_ (qQ _)) ?_));have d:=uw c.o (lW T (nL T) 256);have f:=lh (a:=w) (B:=w.heap.size) (g:=w.heap.size+1) o_ (dD (lW T (nL T) 256)) 0 wr j.o;have p:=wG d;refine br_ (v:=.agg (dD (lW T (nL T) 256)).toArray) ?_ rfl ⟨by rw[yh],f⟩;simp[results,results168,Act.put,asAddr,p]
theorem acZ(b:Int):Pu.wid Pu.dW b b=jH b:=by
 funext n;unfold Pu.wid Pu.dW jH;by_cases h:(n:Int)=b
 .simp [h]
 .have:¬(b<=(n:Int)/\(n:Int)<=b):=o_;simp only[Bool.false_or];rw[Bool.eq_iff_iff];simp only[Bool.and_eq_true,decide_eq_true_eq];exact⟨fun k=>absurd k this,fun k=>absurd k h⟩
theorem GI(b:Int)(w:W_) :
  Calls prog 169 #[I_ b] w (mY (Fj (jH b)) w):=by
 have c:=wH;have d:Hid (dh (w.alloc (c_ (dD Pu.dW).toArray 246)) w.heap.size 246 (dD Pu.dW)):=hn_ w _;have f:Hid (B_ w (w.alloc (c_ (dD Pu.dW).toArray 246))):=(Br_ w.heap.size w).alloc dF _;go_in;go_wp2_with fail;clear c;refine (QI Pu.dW b b _).mono ?_;rintro e k ⟨rfl,c⟩;rw[acZ];have i:=bL (bO d.o c (bP d.o));have j:=bL (ja f.o c);clear c d f;go_wp2_with (refine ws_ rfl 246 (.tmp 2) (.tmp 6) rfl w.heap.size 0 (dD (jH b)).toArray rfl rfl (by have:=mq i.o;rw[cZ]at this;simpa [cZ]using this) (by simp only[List.size_toArray,cZ];exact kW) (oc_ (qQ _)) ?_);have c:=uw i.o (jH b);have d:=lh (a:=w) (B:=w.heap.size) (g:=w.heap.size) dF (dD (jH b)) 0 k j.o;have f:=wG c;refine br_ (v:=.agg (dD (jH b)).toArray) ?_ rfl ⟨rfl,d⟩;simp[results,results169,Act.put,asAddr,f]
theorem xL(b:Int)(w:W_) :
  C_ 155 #[I_ b] w (mY (.bool (decide (fV b))) w):=by
 by_cases h:fV b
 .have a:=h;unfold fV at a;have n1:(b == 41)=false:=by simp;omega
  have c:(b == 93)=false:=by simp;omega
  have d:(b == 42)=false:=by simp;omega
  have e:(b == 43)=false:=by simp;omega
  have f:(b == 63)=false:=by simp;omega
  have i:(b == 124)=false:=by simp;omega
  have j:(b == 32)=false:=by simp;omega
  have k:(b == 10)=false:=by simp;omega
  have n:(b == -1)=false:=by simp;omega
  rw[dt_ h];clear a h;go_enter func155,ntmps155;go_wp2;go_ret;exact⟨rfl,Br_ _ _⟩
 .rw [dn_ h];unfold fV at h;have a:b=41\/b=93\/b=42\/b=43\/b=63\/b=124\/b=32\/b=10\/b=-1:=o_;clear h;rcases a with rfl | rfl | rfl | rfl | rfl | rfl | rfl | rfl | rfl;all_goals
   go_enter func155,ntmps155;go_wp2;go_ret;exact⟨rfl,Br_ _ _⟩
end Go.Proofs.YtmccnmgaoppogabGreat
