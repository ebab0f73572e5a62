import Derived.Test.YtmccnmgaoppogabGreatuLA
import Derived.Test.YtmccnmgaoppogabGreatuJ16
namespace Go.Proofs.YtmccnmgaoppogabGreat
open Pu
set_option linter.all false
open Go.Proofs.Tryz Tryz
set_option maxRecDepth 100000
set_option maxHeartbeats 8000000
open Go.RowKit
variable {B g j n:Nat} {v:V_} {xs:List V_} {K:List aA} {W w:W_} {KK:List (List aA)} {ops:Array Oper} {rest:List Oper}
section
variable {B gw:Nat} {vc:V_} {code:List ed} {ob Ty:Option Nat} {w w' W:W_}
theorem Lk.yQ(h:Lk gw vc.ownBlock Ty w w')(p:Wc B gw vc code w){f t size:Nat}(l:w.ownsRow f t size v n xs)(x:t≠171)(y:t≠50):w'.ownsRow f t size v n xs:=by
 refine h.rows l (fun k e=>?_);rcases l.2 with ⟨b,_⟩ | ⟨g,r,u,b,_,d,_⟩
 .rw [b]at e;cases e
 .rw [b]at e;cases e;refine⟨?_,fun a=>?_⟩
  .rintro rfl;have:=p.b;unfold dh at this;rw[this]at d;cases d;exact x rfl
  .rcases p.own.2 with ⟨c,_⟩ | ⟨z,_,_,c,_,i,_⟩
   .rw [c]at a;cases a
   .rw [c]at a;cases a;rw[d]at i;cases i;exact y rfl
theorem Lk.amX(h:Lk gw vc.ownBlock Ty w w')(b:Wc B gw vc code w){t:Nat}(a:dh w g t xs)(c:t≠171)(d:t≠50):dh w' g t xs:=h.fB a (dI a b.b c) (b.ne a d)
theorem Lk.kdm(h:Lk gw vc.ownBlock Ty w w')(c:Wc B gw vc code w){a:Nat}(b:MV a w v K):MV a w' v K:=⟨h.yQ c b.own d_ d_,b.len⟩
theorem Lk.grown(h:Lk gw ob Ty w W)(a:W.grownBy w' (some g))(f:w.heap.size<=g):Lk gw ob Ty w w':=by refine⟨a.os.trans h.os,a.tape.trans h.tape,a.output.trans h.output,lt_ h.size a.size,fun k b c d=>?_,h.row⟩;rw[a.block k (Nat.lt_of_lt_of_le b h.size) (fun e=>by have:=oi_ e;omega)];exact h.block k b c d
theorem Wc.apart{t:Nat}(h:Wc B gw vc code W)(a:dh W g t xs)(c:t≠171)(d:t≠50)(b:W.grownBy w' (some g)):Wc B gw vc code w':=
 ⟨bR h.b b (fun e=>dI a h.b c (oi_ e).symm),dG h.own a d b,h.lo⟩
end
namespace Pu
def kV(code:List ed)(all:List aA)(j:Nat):List ed × List Nat:=((all.drop 1).take (j-1)).foldl JF (code,[0])
theorem Sy(code:List ed)(all:List aA):kV code all 1=(code,[0]):=rfl
theorem OY(code:List ed)(all:List aA){k:aA}(b:1<=j)(a:all[j]?=some k):kV code all (j+1)=((kV code all j).1++dR k,(kV code all j).2++[(kV code all j).1.length]):=by
 unfold kV;obtain⟨i,rfl⟩:∃i,j=i+1:=⟨j-1,o_⟩;rw[Nat.add_sub_cancel,Nat.add_sub_cancel,List.take_add_one,List.getElem?_drop,Nat.add_comm 1 i,a,List.foldl_append];rfl
theorem Sw(code:List ed)(all:List aA)(c:1<=j)(d:j<=all.length):(kV code all j).2.length=j/\code.length+(j-1)<=(kV code all j).1.length/\(kV code all j).1.length<=code.length+259*j:=by
 unfold kV;rw[za];have b:=xS ((all.drop 1).take (j-1));have a:((all.drop 1).take (j-1)).length=j-1:=by rw[List.length_take,List.length_drop];omega
 simp only[la_,Bg,a,lc_,ln_];rw[a]at b;omega
theorem Su(code:List ed)(all:List aA)(h:¬all.length<=1):(kV code all all.length).1.take code.length++((kV code all all.length).1.drop code.length).map (lY (kV code all all.length).2)=oq code all:=by
 have e:kV code all all.length=(all.drop 1).foldl JF (code,[0]):=by unfold kV;rw[List.take_of_length_le (by rw[List.length_drop];omega)]
 unfold oq;rw[if_neg h,e,za];simp
theorem Sv(code:List ed)(all:List aA)(h:∀k∈all,∀b,k.longer.getD b 0<all.length)(i:Nat)(x:ed)(p:code.length<=i)(c:(kV code all all.length).1[i]?=some x)(l:x.op=3):∃t:Nat,x.bH=(t:Int)/\t<all.length:=by
 unfold kV at c;rw[za,ar_ p]at c;obtain⟨k,f,c⟩:=List.mem_flatMap.1 (mg_ c);have f:k∈all:=List.mem_of_mem_drop (List.mem_of_mem_take f);obtain⟨r,d⟩:=gf_ c;rcases Gj k r x d with ⟨e,_⟩ | e | e | ⟨⟨a,b,_,_,e,_⟩,_⟩
 .subst e;cases l
 .subst e;cases l
 .subst e;cases l
 .subst e;exact⟨k.longer.getD a 0,rfl,h k f a⟩
theorem Ub(a:List Nat)(n x:Nat)(h:a.length<n):(a++List.replicate (n-a.length) 0).set a.length x=(a++[x])++List.replicate (n-(a++[x]).length) 0:=by
 obtain⟨m,b⟩:∃m,n-a.length=m+1:=⟨n-a.length-1,o_⟩;rw[b,List.replicate_succ,List.set_append_right _ _ dF,Nat.sub_self,sz_,la_,show n-(a.length+[x].length)=m by simp;omega];simp
end Pu
theorem abZ{l:List Nat}(h:dh W g 3 (bZ l))(a:l.length<=100000):fe W (s_ g l.length l.length) l:=by unfold fe;refine⟨by simp[bZ],.inr ⟨g,l.length,(bZ l).toArray,rfl,zl_ _,h,dF,by unfold maxLen;omega,by simp[iE],?_⟩⟩;rw[Nat.mul_one,List.take_of_length_le (by rw[iE];exact dF)]
structure Ms(B Bk gw gs:Nat)(w:W_)(ob:Option Nat)(vk:V_)(all:List aA)(vc:V_)(q:List ed × List Nat)(W:W_):Prop where
 wc:Wc B gw vc q.1 W
 lk:Lk gw ob vc.ownBlock w W
 k:MV Bk W vk all
 st:dh W gs 3 (bZ (q.2++List.replicate (all.length-q.2.length) 0))
section
variable {B Bk gw gs:Nat} {w:W_} {ob:Option Nat} {vk:V_} {all:List aA} {vc vc':V_} {q:List ed × List Nat} {W W':W_}
theorem Ms.mark(h:Ms B Bk gw gs w ob vk all vc q W)(b:q.2.length=j)(c:j<all.length)(d:w.heap.size<=gs):Wc B gw vc q.1 (W.setCell (a_ gs j) (I_ (q.1.length:Int)))/\Lk gw ob vc.ownBlock w (W.setCell (a_ gs j) (I_ (q.1.length:Int)))/\MV Bk (W.setCell (a_ gs j) (I_ (q.1.length:Int))) vk all/\dh (W.setCell (a_ gs j) (I_ (q.1.length:Int))) gs 3 (bZ ((q.2++[q.1.length])++List.replicate (all.length-(q.2++[q.1.length]).length) 0)):=by
 subst b;have a:=gs_ W gs q.2.length (I_ (q.1.length:Int));refine⟨h.wc.apart h.st d_ d_ a,h.lk.grown a d,⟨dG h.k.own h.st d_ a,h.k.len⟩,?_⟩;have:=cK h.st q.2.length (I_ (q.1.length:Int));rw[<-Ub _ _ _ c];have e:bZ ((q.2++List.replicate (all.length-q.2.length) 0).set q.2.length q.1.length)=(bZ (q.2++List.replicate (all.length-q.2.length) 0)).set q.2.length (I_ (q.1.length:Int)):=by unfold bZ;rw[List.map_set]
 rw[e];exact this
end
theorem Wt(B Bk gw:Nat)(vc vk:V_)(code:List ed)(all:List aA)(w:W_)(h:Wc B gw vc code w)(l:MV Bk w vk all)(hl:code.length<=500000)(hn:all.length<=1000)(y:∀k∈all,∀b,k.longer.getD b 0<all.length) :
  Calls prog 71 #[p_ gw,vk] w (fun e w'=>e=.returned (.tuple #[])/\wX B gw vc (oq code all) w w'):=by
 obtain⟨p,r,rfl,_,_⟩:=eO h.own;obtain⟨L,F,rfl,_,_⟩:=eO l.own;have E:=bQ 0 h.b rfl;have H:=bL h;have S:=bL l;have T:=bL y;clear h l y;go_in;by_cases O:all.length<=1
 .have V:decide ((all.length:Int)<=1)=true:=dt_ o_;have t:Hid (oq code all=code++[⟨5,0,0,0⟩]):=by show _=_;unfold oq;rw[if_pos O]
  go_wp2_with fail;refine (ru B gw _ code ⟨5,0,0,0⟩ w H.o o_).mono ?_;rintro e a ⟨rfl,i,d,wc⟩;have f:Hid (wX B gw (.slice p code.length r) (oq code all) w a):=⟨i,d,by rw[t.o];exact wc⟩;clear d wc;go_wp2;exact br_ (results_none r_ _ _ _) rfl ⟨rfl,f.o⟩
 .have V:decide ((all.length:Int)<=1)=false:=dn_ o_;have c:=Ps all.length o_;have a:B_ w (w.alloc (c_ (Array.replicate all.length (I_ 0)) 3)):=kM _;have d:Hid (Ms B Bk gw w.heap.size w (Value.slice p code.length r).ownBlock (.slice L all.length F) all (.slice p code.length r) (kV code all 1) (w.alloc (c_ (Array.replicate all.length (I_ 0)) 3))):=by
   refine⟨H.o.below a,.below a,S.o.below a,?_⟩;rw[Sy];have:=hn_ w (c_ (Array.replicate all.length (I_ 0)) 3);have e:(bZ ([0]++List.replicate (all.length - [0].length) 0)).toArray=Array.replicate all.length (I_ 0):=by obtain⟨m,f⟩:∃m,all.length=m+1:=⟨all.length-1,o_⟩;rw[f];simp[bZ,<-List.replicate_succ]
   unfold dh;rw[e];exact this
  clear a;go_wp2_with fail;clear c E;generalize w.alloc (c_ (Array.replicate all.length (I_ 0)) 3)=W1 at *;go_loopg [6] (all.length-1) (fun a c f=>∃(j:Nat) (G:V_),1<=j/\j<=all.length/\a=all.length-j/\c=I_ j/\Ms B Bk gw w.heap.size w (Value.slice p code.length r).ownBlock (.slice L all.length F) all G (kV code all j) f);exact⟨1,_,dF,o_,rfl,rfl,d.o⟩;clear d;obtain⟨j,G,Q,jl,rfl,rfl,c⟩:=hrel;have a:=bL (Sw code all Q jl);by_cases N:j<all.length
  .have X:=oL j all.length;have wi:=kZ j;have Z:=jJ j;have ij1:(j:Int)<all.length:=o_;obtain⟨k,l⟩:=rG all j N;have D:=bL (OY code all Q l);generalize kV code all j=q at *;obtain⟨aX,cX,rfl,_,_⟩:=eO c.wc.own;have E:=bQ 0 c.wc.b rfl;obtain⟨z,d⟩:∃z,(bZ (q.2++List.replicate (all.length-q.2.length) 0))[j]?=some z:=⟨_,gg_ (by have:=a.o.1;rw[iE,la_,lp_];omega)⟩;have s1:=bN c.st d;have s2:=bM c.st j;obtain⟨C,x,i,A⟩:=c.mark a.o.1 N dF;have f:=bL C;have t:=bL x;have I:=bL i;have u:=bL A;obtain⟨gk,U,Y,_,_⟩:=dL i.own o_;cases Y;have J:=bL (i.get l).2;have R:k.longer.length=256:=i.len k (mg_ l);clear c C x i A d l;go_upto_region 8 with (fail);clear s1 s2 E;generalize wr.setCell (a_ w.heap.size j) (I_ (q.1.length:Int))=C at *;have sl:(xA k).length=257:=pR R;go_wp2_with (refine wl_ rfl 169 (.tmp 38) rfl gk (j*257) rfl _ _ J.o underlying169 rfl (by rw[sl];exact LH) ?_);refine (abD B gw _ q.1 k C f.o (by have:=a.o;omega) R).mono ?_;rintro e x ⟨rfl,i,d,wc⟩;have A:Hid (Ms B Bk gw w.heap.size w (Value.slice p code.length r).ownBlock (s_ gk all.length F) all i (kV code all (j+1)) x):=by
    refine⟨?_,t.o.trans d,d.kdm f.o I.o,?_⟩
    .rw [D.o];exact wc
    .rw [D.o];exact d.amX f.o u.o d_ d_
   clear d wc f t I u J D a;go_wp2;go_roundg (all.length-(j+1));exact⟨j+1,i,o_,o_,rfl,by go_num,A.o⟩;omega
  .have X:=nI j all.length;have C:j=all.length:=o_;have t:=bL (Su code all O);have z:=bL (Sv code all T.o);rw[C]at c a;generalize kV code all all.length=q at *;have A:Hid (fe wr (s_ w.heap.size all.length all.length) q.2):=by have d:=c.st;rw[a.o.1,Nat.sub_self,List.replicate_zero,List.append_nil]at d;have:=abZ d (by have:=a.o.1;omega);rw[a.o.1]at this;exact this
   have u:=bL c;clear c;go_wp2_with fail;refine (abO B gw code.length G (s_ w.heap.size all.length all.length) q.1 q.2 wr u.o.wc A.o (by have:=a.o;omega) (by have:=a.o;omega) (by have:=a.o;omega) (by have:=a.o;omega) (fun i x d f D=>by rw[a.o.1];exact z.o i x d f D)).mono ?_;rintro e x ⟨rfl,i,d,wc⟩;have f:Hid (wX B gw (.slice p code.length r) (oq code all) w x):=⟨i,u.o.lk.trans d,by rw[<-t.o];exact wc⟩;clear d wc u;go_wp2;go_end0;exact⟨rfl,f.o⟩
def V5(B:Nat)(W:W_)(v:V_)(KK:List (List aA)):Prop:=∃b:List V_,W.ownsRow B 132 1 v b.length b/\b.length=KK.length/\∀(j:Nat) (u:V_) (K:List aA),b[j]?=some u->KK[j]?=some K->MV B W u K/\∃a n c,u=.slice a n c
theorem V5.below{B:Nat}{W W':W_}{v:V_}{KK:List (List aA)}(h:V5 B W v KK)(d:B_ W W'):V5 B W' v KK:=by obtain⟨i,e,f,c⟩:=h;exact⟨i,bW e d dF,f,fun j u K a b=>⟨(c j u K a b).1.below d,(c j u K a b).2⟩⟩
theorem V5.form(h:V5 B W v KK):∃a c,v=.slice a KK.length c:=by obtain⟨f,b,d,_⟩:=h;obtain⟨a,c,e,_,_⟩:=eO b;exact⟨a,c,by rw[e,d]⟩
theorem V5.get{a:Option Addr}{c:Nat}(h:V5 B W (.slice a n c) KK)(k:KK[j]?=some K):∃g b un d,a=some (a_ g 0)/\W.cell? (a_ g j)=some (.slice b un d)/\MV B W (.slice b un d) K:=by
 obtain⟨p,i,x,t⟩:=h;have y:=(ge_.1 k).1;obtain⟨g,r,e,_,_⟩:=dL i o_;cases e;have f:p[j]?=some (p[j]'o_):=gg_ o_;obtain⟨l,b,un,d,u⟩:=t j _ K f k;rw[u]at f l;exact⟨g,b,un,d,rfl,bV i f,l⟩
theorem zZ{o:Oper}{a:Act}{Q:Exit->Act->W_->Prop}(d:o.guard=none)(s x:Operand)
  (C:o.op=.call { callee:=.builtin .append,args:=#[s,x],argTypes:=#[31,31] }) (base:Nat) (v:V_) (u:List Int) (q:Int) (c:Nat) (D:a.eval s=v) (p:w.ownsRow base 3 1 v u.length (bY u))
  (E:a.eval x=s_ c 1 1) (A:dh w c 3 [I_ q]) (H:u.length<=1000000) (G:base<=w.heap.size)
  (h:∀g b w',w'.ownsRow base 3 1 (s_ g (u.length+1) b) (u++[q]).length (bY (u++[q]))->w.grownBy w' v.ownBlock->wpList prog ops Q rest (a.put o.dst (s_ g (u.length+1) b)) w'):wpList prog ops Q (o::rest) a w:=by
 obtain⟨F,f,i,k,l⟩:=ip_ vN;refine wpList_append_lies _ d s x 31 C base 3 F _ 1 8 underlying31 f i k l rfl d_ v u.length (bY u) D p (a_ c 0) 1 1 [I_ q] E rfl ?_ (fun z e=>by simp at e;rw[e];rfl) d_ (by unfold maxLen;omega) o_ G _ rfl ?_
 .intro j y e;have:=bN A e;simpa [add_eq]using this
 .intro g b w' r t _ _;refine h g b w' ?_ t;rw[la_];have e:bY (u++[q])=bY u++[I_ q]:=by simp[bY]
  rw[e];exact r
namespace Pu
def anD(q:List Int × List ed)(m:List aA):List Int × List ed:=(q.1++[(q.2.length:Int)],oq q.2 m)
def uA(a:List (List aA))(i:Nat):List Int × List ed:=(a.take i).foldl anD ([],[])
theorem Gm{a:List (List aA)}{i:Nat}(h:a[i]?=some K):uA a (i+1)=((uA a i).1++[((uA a i).2.length:Int)],oq (uA a i).2 K):=by unfold uA;rw[List.take_add_one,h,List.foldl_append];rfl
theorem Xx(a:List (List aA)):uA a a.length=uP a:=by unfold uA uP;rw[List.take_length];rfl
theorem Xy(a:List (List aA))(h:∀m∈a,m.length<=42):∀i,i<=a.length->(uA a i).1.length=i/\(uA a i).2.length<=10619*i:=by
 intro i;induction i with
 | zero=>intro _;exact⟨rfl,dF⟩
 | succ i b=>intro d;have b:=b o_;have c:a[i]?=some (a[i]'o_):=gg_ o_;rw[Gm c,Gp];have:=Ct (uA a i).2.length _ (h _ (List.getElem_mem (by omega:i<a.length)));refine⟨by rw[la_,b.1];rfl,?_⟩;rw[la_];omega
end Pu
structure Ly(w:W_)(ve vc:V_)(q:List Int × List ed)(W:W_):Prop where
 be:B_ w W
 wc:Wc w.heap.size w.heap.size vc q.2 W
 e:W.ownsRow w.heap.size 3 1 ve q.1.length (bY q.1)
section
variable {w W W':W_} {ve vc vc':V_} {q:List Int × List ed}
theorem Ly.below(h:Ly w ve vc q W)(a:B_ W W'):Ly w ve vc q W':=⟨ja h.be a,h.wc.below a,bW h.e a dF⟩
theorem Ly.ent(h:Ly w ve vc q W){x:Int}{b:V_}(c:W'.ownsRow w.heap.size 3 1 b (q.1++[x]).length (bY (q.1++[x])))(a:W.grownBy W' ve.ownBlock):Ly w b vc (q.1++[x],q.2) W':=
 ⟨h.be.grown a h.be.size (fun k e=>(ol_ h.e k e).1),⟨dZ h.e h.wc.b d_ a,fU h.wc.own h.e d_ a,h.wc.lo⟩,c⟩
theorem Lk.be{Ty:Option Nat}(a:Lk w.heap.size vc.ownBlock Ty W W')(h:B_ w W)(c:Wc w.heap.size w.heap.size vc q.2 W):B_ w W':=by refine⟨a.os.trans h.os,a.tape.trans h.tape,a.output.trans h.output,lt_ h.size a.size,fun k b=>?_⟩;rw[a.block k (Nat.lt_of_lt_of_le b h.size) o_ (fun e=>by have:=(ol_ c.own k e.symm).1;omega)];exact h.block k b
theorem Ly.on(h:Ly w ve vc q W)(a:Lk w.heap.size vc.ownBlock vc'.ownBlock W W'){code:List ed}(b:Wc w.heap.size w.heap.size vc' code W'):Ly w ve vc' (q.1,code) W':=
 ⟨a.be h.be h.wc,b,a.yQ h.wc h.e d_ d_⟩
end
def Z8(q:List Int × List ed)(w:W_)(e:Ending)(w':W_):Prop:=∃ve vc,e=.returned (.tuple #[ve,vc])/\B_ w w'/\w'.ownsRow w.heap.size 3 1 ve q.1.length (bY q.1)/\w'.ownsRow w.heap.size 50 4 vc q.2.length (dw q.2)
theorem aaz(Bk:Nat)(N:V_)(a:List (List aA))(w:W_)(y:V5 Bk w N a)(hn:a.length<=10)(G:∀m∈a,m.length<=42)(f:∀m∈a,∀k∈m,∀b,k.longer.getD b 0<m.length) :
  Calls prog 50 #[N] w (Z8 (uP a) w):=by
 obtain⟨am,cm,rfl⟩:=y.form;obtain⟨il,x,z,A,C⟩:=ip_ vN;have c:B_ w (w.alloc (c_ #[n_] 171)):=kM _;obtain⟨V,i,e,d⟩:=run_make_own (P:=prog) (w.alloc (c_ #[n_] 171)) w.heap.size 31 3 il _ 1 underlying31 x z A .i64 .i64 a.length (by rw[C];omega) (by unfold maxLen;omega) c.size;have l:Hid (Ly w (s_ ((w.alloc (c_ #[n_] 171)).heap.size) 0 a.length) n_ (uA a 0) V):=by have p:=wM d;have r:dh (w.alloc (c_ #[n_] 171)) w.heap.size 171 [n_]:=hn_ _ _;exact⟨ja c p,⟨bO r p (bP r),iR _ _ _ _,dF⟩,e⟩
 have O:=bL y;have D:=bL G;have S:=bL f;clear y G f c e d;go_in;go_wp2_with fail;clear i;rw[wa_]at l;go_loopg [5,7,14] a.length (fun gk c _ d e=>∃(i:Nat) (ve vc:V_),i<=a.length/\gk=a.length-i/\d=I_ i/\ve=c/\Ly w ve vc (uA a i) e);exact⟨0,_,_,zl_ _,rfl,rfl,rfl,l.o⟩;clear l;obtain⟨i,ve,vc,t,rfl,rfl,rfl,d⟩:=hrel;have r:=bL (Xy a D.o i t);obtain⟨X,Y,rfl,_,_⟩:=eO d.wc.own;by_cases hi:i<a.length
 .have d1:=oL i a.length;have wi:=kZ i;have ii0:=jJ i;have ii1:(i:Int)<a.length:=o_;obtain⟨K,c⟩:=rG a i hi;have T:=bL (Gm c);generalize uA a i=q at *;obtain⟨F,J,un,L,rfl,e,H⟩:=O.o.get c;have Z:wr.cell? (a_ F i)=some (.slice J un L):=(World.cell?_of_block (d.be.block F (World.block_lt_of_cell? w _ e))).trans e;have R:=bL H;have u:=bQ 0 d.wc.b rfl;have I:B_ wr (wr.alloc (c_ #[I_ (q.2.length:Int)] 3)):=kM _;have l:=bL (d.below I);have E:Hid (w.heap.size<=(wr.alloc (c_ #[I_ (q.2.length:Int)] 3)).heap.size):=l.o.be.size;have Q:=bL (D.o K (mg_ c));have p:=bL (S.o K (mg_ c));have U:q.1.length<=1000000:=by have:=r.o;omega
  clear d I H e c;go_upto_region 7 with (at_builtin;go_must (refine zZ rfl (.tmp 18) (.tmp 22) rfl w.heap.size _ q.1 (q.2.length:Int) wr.heap.size rfl l.o.e rfl (hn_ _ _) U E.o ?_);intro g8 I w8 H e);have c:=bL (l.o.ent H e);clear H e l E Z u;go_wp2_with fail;refine (Wt w.heap.size Bk w.heap.size _ (.slice J un L) q.2 K w8 c.o.wc (R.o.below c.o.be) (by have:=r.o;omega) (by have:=Q.o;omega) p.o).mono ?_;rintro e H ⟨rfl,u,l,wc⟩;have E:Hid (Ly w (s_ g8 (q.1.length+1) I) u (uA a (i+1)) H):=by rw[T.o];exact c.o.on l wc
  clear l wc c;go_wp2;go_roundg (a.length-(i+1));exact⟨i+1,_,u,o_,rfl,by go_num,rfl,E.o⟩;omega
 .have d1:=nI i a.length;have c:i=a.length:=o_;rw[c,Xx]at d;generalize uP a=q at *;have u:=bQ 0 d.wc.b rfl;obtain⟨p,E,rfl,_,_⟩:=eO d.e;have l:=bL d;clear d r c;go_wp2_with fail;go_quiet (fail);have c:Hid (Z8 q w (.returned (.tuple #[.slice p q.1.length E,.slice X q.2.length Y])) (wr.drewN nq)):=by have e:=l.o.below (bd_ (Br_ _ _) nq);exact⟨_,_,rfl,e.be,e.e,e.wc.own⟩
  clear l u;go_wp2;go_ret2;exact c.o
theorem TU:(prog.info? 48).map (fun i=>(i.zero,i.size,i.bytes))=some (some (.agg #[I_ 0,I_ 0,I_ 0]),3,24):=k_
abbrev VJ(r:mg):List V_:=[I_ r.emit,I_ r.act,I_ r.mode]
theorem Aa{o:Oper}{a:Act}{Q:Exit->Act->W_->Prop}(d:o.guard=none)(s x:Operand)
  (C:o.op=.call { callee:=.builtin .append,args:=#[s,x],argTypes:=#[39,39] }) (base:Nat) (v:V_) (u:List mg) (q:mg) (c:Nat) (D:a.eval s=v) (p:w.ownsRow base 48 3 v u.length (dP u))
  (E:a.eval x=s_ c 1 1) (A:dh w c 48 (VJ q)) (H:u.length<=1000) (G:base<=w.heap.size)
  (h:∀b w',w'.ownsRow base 48 3 b (u++[q]).length (dP (u++[q]))->w.grownBy w' v.ownBlock->wpList prog ops Q rest (a.put o.dst b) w'):wpList prog ops Q (o::rest) a w:=by
 obtain⟨F,f,i,k,l⟩:=ip_ TU;refine wo_ _ d s x 39 C base 48 F _ 3 24 underlying39 f i k l rfl d_ v u.length (dP u) D p (a_ c 0) 1 1 (VJ q) E rfl ?_ (fun z e=>by simp at e;rcases e with rfl | rfl | rfl <;> rfl) (by unfold maxLen;omega) o_ G ?_
 .intro j y e;have:=bN A e;simpa [add_eq]using this
 .intro b w' r t _;refine h b w' ?_ t;rw[la_];have e:dP (u++[q])=dP u++VJ q:=by simp[dP]
  rw[e];exact r
theorem aex:(prog.info? 132).map (fun i=>(i.zero,i.size,i.bytes))=some (some n_,1,24):=k_
theorem CO{o:Oper}{a:Act}{Q:Exit->Act->W_->Prop}(e:o.guard=none)(s x:Operand)
  (A:o.op=.call { callee:=.builtin .append,args:=#[s,x],argTypes:=#[130,130] }) (base:Nat) (v:V_) (b:List V_) (D:a.eval s=v) (r:w.ownsRow base 132 1 v b.length b)
  (d:Nat) (q:V_) (E:a.eval x=s_ d 1 1) (z:dh w d 132 [q]) (C:q.oneCell'=true) (H:b.length<=1000) (G:base<=w.heap.size)
  (h:∀c w',w'.ownsRow base 132 1 c (b++[q]).length (b++[q])->w.grownBy w' v.ownBlock->wpList prog ops Q rest (a.put o.dst c) w'):wpList prog ops Q (o::rest) a w:=by
 obtain⟨F,f,i,k,l⟩:=ip_ aex;refine wo_ _ e s x 130 A base 132 F _ 1 24 underlying130 f i k l rfl d_ v b.length b D r (a_ d 0) 1 1 [q] E rfl ?_ (fun u p=>by simp at p;rw[p];exact C) (by unfold maxLen;omega) o_ G ?_
 .intro j y p;have:=bN z p;simpa [add_eq]using this
 .intro c w' p t _;refine h c w' ?_ t;rw[la_];exact p
theorem Kt.fnd{d:Nat}{w':W_}{c:List (List Pu.aN)}(h:Kt d w w')(p:Zj B w v c)(i:3≠d)(k:163≠d)(l:131≠d):Zj B w' v c:=by obtain⟨x,r,t,e⟩:=p;exact⟨x,h.rows r l,t,fun j u f a b=>⟨h.YR (e j u f a b).1 i k,(e j u f a b).2⟩⟩
theorem Zj.get{a:Option Addr}{c:Nat}{b:List (List Pu.aN)}(h:Zj B W (.slice a n c) b){ss:List Pu.aN}(p:b[j]?=some ss)(E:0<ss.length):∃g gs d,a=some (a_ g 0)/\W.cell? (a_ g j)=some (s_ gs ss.length d)/\rC B W (s_ gs ss.length d) ss:=by
 obtain⟨r,l,C,u⟩:=h;have D:=(ge_.1 p).1;obtain⟨g,t,e,_,_⟩:=dL l o_;cases e;have f:r[j]?=some (r[j]'o_):=gg_ o_;obtain⟨i,_⟩:=u j _ ss f p;obtain⟨A,x,y,F⟩:=id i;have z:A.length=ss.length:=by rw[<-y,lm_]
 obtain⟨gs,d,k,_,_⟩:=dL x o_;rw[z]at k;rw[k]at f i;exact⟨g,gs,d,rfl,bV l f,i⟩
theorem Kt.kdm{b:Nat}{w':W_}(h:Kt b w w')(a:MV B w v K)(c:169≠b):MV B w' v K:=⟨h.rows a.own c,a.len⟩
structure Cm(w:W_)(gT:Nat)(all:List aC)(al:Option Addr)(nl cl:Nat)(ap:Option Addr)(np cp:Nat)(fv va:V_)(rs:List mg)(W:W_):Prop where
 be:B_ w W
 b:dh W gT 122 [I_ (Pu.aV all:Nat),.slice al nl cl,.slice ap np cp]
 lm:Lm w.heap.size W (.slice al nl cl) (dx all).1
 fd:Zj w.heap.size W fv (mh all (Pu.aV all))
 a:W.ownsRow w.heap.size 48 3 va rs.length (dP rs)
section
variable {w:W_} {gT:Nat} {all:List aC} {al:Option Addr} {nl cl:Nat} {ap:Option Addr} {np cp:Nat} {fv va va':V_} {rs:List mg} {W W':W_}
theorem Cm.below(h:Cm w gT all al nl cl ap np cp fv va rs W)(a:B_ W W'):Cm w gT all al nl cl ap np cp fv va rs W':=
 ⟨ja h.be a,bO h.b a (bP h.b),h.lm.below a,h.fd.below a,bW h.a a dF⟩
theorem Cm.agB(h:Cm w gT all al nl cl ap np cp fv va rs W){r:mg}(c:W'.ownsRow w.heap.size 48 3 va' (rs++[r]).length (dP (rs++[r])))(b:W.grownBy W' va.ownBlock):Cm w gT all al nl cl ap np cp fv va' (rs++[r]) W':=by have a:Kt 48 W W':=Kt.row h.a b;exact⟨h.be.grown b h.be.size (fun k e=>(ol_ h.a k e).1),a.block h.b d_,a.lm h.lm d_ d_,a.fnd h.fd d_ d_ d_,c⟩
theorem Cm.adR(h:Cm w gT all al nl cl ap np cp fv va rs W){d:V_}{f:List V_}(c:W.ownsRow w.heap.size 132 1 d f.length f)(b:W.grownBy W' d.ownBlock):Cm w gT all al nl cl ap np cp fv va rs W':=by have a:Kt 132 W W':=Kt.row c b;exact⟨h.be.grown b h.be.size (fun k e=>(ol_ c k e).1),a.block h.b d_,a.lm h.lm d_ d_,a.fnd h.fd d_ d_ d_,a.rows h.a d_⟩
theorem V5.add{p l:V_}{b:List V_}{a:Option Addr}{c:Nat}(t:W.ownsRow B 132 1 p b.length b)(h:b.length=KK.length)(i:∀(j:Nat) (u:V_) (K:List aA),b[j]?=some u->KK[j]?=some K->MV B W u K/\∃a n c,u=.slice a n c)
  (y:MV B W (.slice a n c) K) (z:W'.ownsRow B 132 1 l (b++[Value.slice a n c]).length (b++[Value.slice a n c])) (x:W.grownBy W' p.ownBlock):V5 B W' l (KK++[K]):=by
 have k:Kt 132 W W':=Kt.row t x;refine⟨_,z,by simp[h],fun j u f r d=>?_⟩;rcases ug r with ⟨A,e⟩ | ⟨rfl,rfl⟩
 .rw [al_ o_]at d;exact⟨k.kdm (i j u f e d).1 d_,(i j u f e d).2⟩
 .rw [ar_ o_,h,Nat.sub_self]at d;have:K=f:=by simpa using d
  subst this;exact⟨k.kdm y d_,_,_,_,rfl⟩
end
namespace Pu
theorem Qf(ls:List aD){k:Nat}{x:aD}(h:ls[k]?=some x):(jU ls).take (k+1)=(jU ls).take k++[⟨x.emit,x.act,x.md⟩]:=by rw[List.take_add_one];unfold jU;rw[gm_,h];rfl
theorem WZ(all:List aC)(h:j<aV all):(mh all (aV all))[j]?=some (gJ all j):=by unfold mh;rw[gm_,List.getElem?_range h];rfl
theorem abG(all:List aC)(h:j<aV all):(pg all).take (j+1)=(pg all).take j++[jW (dx all).1 (gJ all j)]:=by rw[List.take_add_one];unfold pg;rw[gm_,List.getElem?_range h];rfl
def Nr(s:Y_)(a:Int)(str:Y_):Prop:=(∃no,uL s a no)/\(a≠0->str=⟨#[]⟩)/\
 (a=0->∃all,uk s 0 [] all/\zq Fy all/\zq MW all/\(∀j,j<aV all->(gJ all j).length<=42)/\str=strOfNums (rT (nH all)))
end Pu
theorem Ob(s:Y_)(w:W_):Calls prog 23 #[.string s] w (fun e w'=>∃z str,e=.returned (.tuple #[.string str,I_ z])/\B_ w w'/\Nr s z str):=by
 go_in;go_wp2_with fail;refine (JW s w).mono ?_;rintro e y ⟨a,b,c,fv,z,no,rfl,G,H,hn,hy⟩;by_cases L:z=0
 .subst L;obtain⟨all,al,nl,cl,ap,np,cp,S,hD,hE,wE,rfl,rfl,rfl,lm,pl,R⟩:=hy rfl;obtain⟨vs0,fo,fl,_⟩:=id R;obtain⟨Z,cf,rfl,_,_⟩:=eO fo;have C:vs0.length=Pu.aV all:=by rw[fl];simp[mh]
  rw[C]at R;rw[C];have Ao:=S.Ao;have p:=Gv Ao.1;have nm4:=p.2.2;have i:=jw all;have zT:(dx all).2.length<=1000:=by
   rw[i.len];have:s.size<=300:=by
    rcases H with ⟨_,e,_⟩ | ⟨h,_⟩ | ⟨h,_⟩
    .cases e
    .exact h
    .exact h
   exact lt_ S.KQ o_
  have slen:s.size<=1000:=by
   rcases H with ⟨_,e,_⟩ | ⟨h,_⟩ | ⟨h,_⟩
   .cases e
   .omega
   .omega
  have ajS:(dx all).1.length<=16:=by rw[i.n];omega
  have X:Hid (∀x∈(dx all).1,nO (dx all).2.length x.pt):=by have:=i.pts;rw[<-i.len]at this;exact this
  have anP:nl=(dx all).1.length:=by obtain⟨_,_,e,_⟩:=lm.len;cases e;rfl
  have k:=(Br_ y.heap.size y).alloc dF (c_ #[I_ (Pu.aV all:Nat),.slice al nl cl,.slice ap np cp] 122);have d:=k.alloc i_ (c_ #[] 48);have l:Hid (Cm w y.heap.size all al nl cl ap np cp (.slice Z (Pu.aV all) cf) (.slice (some ⟨y.heap.size+1,0,none⟩) 0 0) ((jU (dx all).1).take 0) ((y.alloc (c_ #[I_ (Pu.aV all:Nat),.slice al nl cl,.slice ap np cp] 122)).alloc (c_ #[] 48))):=by have on:=tV (y.alloc (c_ #[I_ (Pu.aV all:Nat),.slice al nl cl,.slice ap np cp] 122)) 48 3;rw[wa_]at on;have f:=G.size;exact⟨ja G d,cO (hn_ _ _) _,lm.below d,R.below d,dH on o_⟩
  have Y:=bL S;have HD:=bL hD;have HE:=bL hE;have f:=bL wE;have HP:=bL H;subst anP;clear G H hn hy S hD hE wE lm pl R fo fl C k d Ao p i;go_upto_region 5 with (fail);generalize (y.alloc (c_ #[I_ (Pu.aV all:Nat),.slice al (dx all).1.length cl,.slice ap np cp] 122)).alloc (c_ #[] 48)=W2 at *;generalize d:Value.slice (some ⟨y.heap.size+1,0,none⟩) 0 0=va0 at *;generalize y.heap.size=gT at *;have i:=bQ 1 l.o.b rfl;go_wp2_with fail;clear i;go_loopg [8,10,30] (dx all).1.length (fun gk p _ r i=>∃(k:Nat) (v:V_),k<=(dx all).1.length/\gk=(dx all).1.length-k/\r=I_ k/\v=p/\Cm w gT all al (dx all).1.length cl ap np cp (.slice Z (Pu.aV all) cf) v ((jU (dx all).1).take k) i);exact⟨0,_,zl_ _,rfl,rfl,rfl,l.o⟩;clear l d;obtain⟨k,v,kl,rfl,rfl,rfl,d⟩:=hrel;by_cases hk:k<(dx all).1.length
  .have d1:decide ((k:Int)<((dx all).1.length:Int))=true:=dt_ o_;have wi:=kZ k;have OM:=jJ k;have IC:(k:Int)<((dx all).1.length:Int):=o_;obtain⟨x,I⟩:∃x,(dx all).1[k]?=some x:=⟨_,gg_ hk⟩;have Q:=bL (Qf (dx all).1 I);have T:((jU (dx all).1).take k).length<=1000:=by rw[List.length_take];omega
   obtain⟨g,V,i,t,p,l,u,r,ev,F,n1,J⟩:=d.lm.get I;cases ev;generalize (jU (dx all).1).take k=rs at *;have A:=(Br_ wr.heap.size wr).alloc dF (c_ (lC (x,.slice i t p,.slice l u r)).toArray 129);have O:=bL (d.below A);have D:Hid (dh (wr.alloc (c_ (lC (x,.slice i t p,.slice l u r)).toArray 129)) wr.heap.size 129 (lC (x,.slice i t p,.slice l u r))):=hn_ _ _;have E:=bL F;clear F I n1 J A d;obtain⟨mo,F,A,md,⟨ep,fi,la⟩,dn⟩:=x;simp only[lC]at O D E;simp only at Q;go_upto_region 8 with (refine wl_ rfl 129 (.tmp 32) rfl g (k*8) rfl _ _ E.o underlying129 rfl sN ?_);have x1:=bQ 1 D.o rfl;have x2:=bQ 2 D.o rfl;have x3:=bQ 3 D.o rfl;clear E D;generalize wr.alloc (c_ #[I_ mo,I_ F,I_ A,I_ md,.bool ep,.slice i t p,.slice l u r,.bool dn] 129)=E at *;generalize wr.heap.size=gx at *;have D:B_ E (E.alloc (c_ #[I_ F,I_ A,I_ md] 48)):=kM _;have N:=bL (O.o.below D);have J:Hid (w.heap.size<=(E.alloc (c_ #[I_ F,I_ A,I_ md] 48)).heap.size):=N.o.be.size;have I:Hid (dh (E.alloc (c_ #[I_ F,I_ A,I_ md] 48)) E.heap.size 48 (VJ ⟨F,A,md⟩)):=hn_ _ _;clear O D;go_upto_region 9 with (at_builtin;go_must (refine Aa rfl (.tmp 34) (.tmp 37) rfl w.heap.size v rs ⟨F,A,md⟩ E.heap.size rfl N.o.a rfl I.o T J.o ?_);intro v8 w8 O D);have U:=bL (N.o.agB O D);clear O D N J I x1 x2 x3;go_wp2;go_roundg ((dx all).1.length-(k+1));exact⟨k+1,v8,o_,rfl,by go_num,rfl,by rw[Q.o];exact U.o⟩;omega
  .have d1:decide ((k:Int)<((dx all).1.length:Int))=false:=dn_ o_;have ek:(jU (dx all).1).take k=jU (dx all).1:=List.take_of_length_le (by unfold jU;rw[lm_];omega);rw[ek]at d;have F:B_ wr (wr.alloc (c_ #[] 132)):=kM _;have C5:=bL (d.below F);have K5:Hid (V5 w.heap.size (wr.alloc (c_ #[] 132)) (.slice (some ⟨wr.heap.size,0,none⟩) 0 0) ((pg all).take 0)):=by have on:=tV wr 132 1;exact⟨[],dH on d.be.size,rfl,fun j u K i=>by simp at i⟩
   clear d F ek;go_upto_region 11 with (fail);generalize wr.alloc (c_ #[] 132)=W5 at *;generalize Value.slice (some ⟨wr.heap.size,0,none⟩) 0 0=vm0 at *;go_wp2_with fail;go_loopg [11,13,43] (Pu.aV all) (fun gk p _ l i=>∃(j:Nat) (Q:V_),j<=Pu.aV all/\gk=Pu.aV all-j/\l=I_ j/\Q=p/\Cm w gT all al (dx all).1.length cl ap np cp (.slice Z (Pu.aV all) cf) v (jU (dx all).1) i/\V5 w.heap.size i Q ((pg all).take j));exact⟨0,_,zl_ _,rfl,rfl,rfl,C5.o,K5.o⟩;clear C5 K5;obtain⟨j,Q,jl,rfl,rfl,rfl,d,E⟩:=hrel;by_cases N:j<Pu.aV all
   .have d2:=oL j (Pu.aV all:Int);have wj:=kZ j;have ij0:=jJ j;have ij1:(j:Int)<(Pu.aV all:Int):=o_;have A:=bL (Hg f.o N);have V:=bL (Qn Y.o f.o N);have SL:=bL (f.o j N);have KT:=bL (abG all N);have p:=WZ all N;generalize gJ all j=T at *;obtain⟨gF,gs,uc,rfl,u,t⟩:=d.fd.get p (by have:=A.o.two;omega);have l:=bL (Xv w.heap.size (dx all).2.length gs uc (.slice al (dx all).1.length cl) (dx all).1 T wr d.lm t o_ zT X.o (fun x I=>by have:=V.o x I;omega) A.o.lt (by have:=SL.o;omega));have i:=bQ 1 d.b rfl;have r:=bL d;have D:=bL E;clear d E t p;go_wp2_with fail;refine l.o.mono ?_;clear l u i;rintro e p ⟨v6,rfl,i,l⟩;obtain⟨t,u,rfl,_,_⟩:=eO l.own;have O:Hid (MV w.heap.size p (.slice t (jW (dx all).1 T).length u) (jW (dx all).1 T)):=⟨dH l.own r.o.be.size,l.len⟩;have x:=bL (r.o.below i);have U:=bL (D.o.below i);clear l i r D;generalize jW (dx all).1 T=K at *;have D:B_ p (p.alloc (c_ #[.slice t K.length u] 132)):=kM _;have l:=bL (x.o.below D);have K7:=bL (O.o.below D);have I:Hid (dh (p.alloc (c_ #[.slice t K.length u] 132)) p.heap.size 132 [.slice t K.length u]):=hn_ _ _;have J:Hid (w.heap.size<=(p.alloc (c_ #[.slice t K.length u] 132)).heap.size):=l.o.be.size;obtain⟨vs,v1,r,v3⟩:=U.o.below D;have i:=bL v1;have V2:=bL r;have V3:=bL v3;have vl:vs.length<=1000:=by rw[r,List.length_take];omega
    clear x O U D v1 r v3;go_wp2_with (at_builtin;go_must (refine CO rfl (.tmp 47) (.tmp 52) rfl w.heap.size Q vs rfl i.o p.heap.size (.slice t K.length u) rfl I.o rfl vl J.o ?_);intro v8 w8 O D);have r:=bL (V5.add i.o V2.o V3.o K7.o O D);have U:=bL (l.o.adR i.o D);clear O D l K7 I J i V2 V3;go_roundg (Pu.aV all-(j+1));exact⟨j+1,v8,o_,rfl,by go_num,rfl,U.o,by rw[KT.o];exact r.o⟩;omega
   .have d2:=nI j (Pu.aV all:Int);have J:(pg all).take j=pg all:=List.take_of_length_le (by rw[yZ];omega);rw[J]at E;have p:Hid (∀m∈pg all,ER all.length m):=fun m r=>by obtain⟨i,T⟩:=gf_ r;exact (Gl f.o T).ok
    have l:=bL (aaz w.heap.size Q (pg all) wr E (by rw[yZ];omega) (fun m r=>(p.o m r).1) (fun m r k hk=>((p.o m r).2 k hk).2.2));have r:=bL d;clear d E J;go_wp2_with fail;refine l.o.mono ?_;clear l;rintro e U ⟨ve,vc,rfl,t,x,u⟩;have l:=r.o.below t;have D:=bL l.be;obtain⟨ae,ce,rfl,_,_⟩:=eO x;obtain⟨A,cc,rfl,_,_⟩:=eO u;obtain⟨V,ca,O,_,_⟩:=eO l.a;subst O;have I:=bL (Kj _ _ _ (nH all) U (vQ x rfl) (vU l.a rfl) (yo u rfl) (tu Y.o f.o));clear l x u t r;go_wp2_with fail;refine I.o.mono ?_;rintro e w8 ⟨rfl,r⟩;have t:=bL (ja D.o r);have l:Hid (Nr s 0 (strOfNums (Pu.rT (nH all)))):=⟨⟨no,HP.o⟩,fun h=>absurd rfl h,fun _=>⟨all,Y.o,HD.o,HE.o,f.o,rfl⟩⟩;clear I r D;generalize strOfNums (Pu.rT (nH all))=str at *;go_wp2;go_ret2;exact⟨0,str,rfl,t.o,l.o⟩
 .obtain⟨f,rfl⟩:=hn L;cases f;have i:(z != 0)=true:=by simpa using L
  have k:(z == 0)=false:=by simpa using L
  have d:=bL (G.alloc G.size (c_ #[I_ 0,n_,n_] 122));have l:Hid (Nr s z ⟨#[]⟩):=⟨⟨no,H⟩,fun _=>rfl,fun h=>absurd h L⟩;clear G H hn hy;go_wp2;go_ret2;exact⟨z,_,rfl,d.o,l.o⟩
namespace Pu
section
variable {s:Y_}
theorem Q5.zJ{c v a:Int}(h:Q5 c v)(b:Q5 c a):a=v:=by unfold Q5 at *;omega
theorem Sg.zJ{i j f:Nat}{v k:Int}(h:Sg s i j v)(e:Sg s i f k):f=j/\k=v:=by
 cases h with
 | plain a b=>
  cases e with
  | plain _ _=>exact⟨rfl,rfl⟩
  | xC c _=>exact absurd c b
 | xC a b=>
  cases e with
  | plain _ d=>exact absurd a d
  | xC _ d=>exact⟨rfl,b.zJ d⟩
theorem ay.zJ{i j l:Nat}{v t u p:Int}{r x:Bool}(h:ay s i j v u r)(k:ay s i l t p x):l=j/\t=v/\p=u:=by
 cases h with
 | one a b=>
  cases k with
  | one c d=>obtain⟨rfl,rfl⟩:=a.zJ c;exact⟨rfl,rfl,rfl⟩
  | range c d e=>obtain⟨rfl,rfl⟩:=a.zJ c;exact absurd d b
 | range a b c=>
  cases k with
  | one d e=>obtain⟨rfl,rfl⟩:=a.zJ d;exact absurd b e
  | range d e f=>obtain⟨rfl,rfl⟩:=a.zJ d;obtain⟨rfl,rfl⟩:=c.zJ f;exact⟨rfl,rfl,rfl⟩
theorem aj.zJ{i k:Nat}{T u:Nat->Bool}{D t:Bool}(h:aj s i T D k u t):∀{p:Nat} {l:Nat->Bool} {f:Bool},aj s i T D p l f->p=k/\l=u/\f=t:=by
 induction h with
 | done a b=>
  intro p l f r;cases r with
  | done c d=>obtain⟨rfl,rfl,rfl⟩:=a.zJ c;exact⟨rfl,rfl,rfl⟩
  | more c d e=>obtain⟨rfl,rfl,rfl⟩:=a.zJ c;exact absurd b d
 | more a b _ x=>
  intro p l f r;cases r with
  | done c d=>obtain⟨rfl,rfl,rfl⟩:=a.zJ c;exact absurd d b
  | more c d e=>obtain⟨rfl,rfl,rfl⟩:=a.zJ c;exact x e
theorem P.zJ{t:aH}{i j:Nat}{a:aM}{D:Bool}(h:P s t i j a D):∀{p:Nat} {a':aM} {d:Bool},P s t i p a' d->p=j/\a'=a/\d=D:=by
 induction h with
 | any c=>
  intro p a' d b;cases b with
  | any _=>exact⟨rfl,rfl,rfl⟩
  | U6 _ _ _ _ k=>exact absurd c k
  | xC k _=>omega
  | cls k _ _=>omega
  | yj k _ _=>omega
  | Oz k _ _=>omega
 | U6 c r u y z=>
  intro p a' d b;cases b with
  | any k=>exact absurd k z
  | U6 _ _ _ _ _=>exact⟨rfl,rfl,rfl⟩
  | xC k _=>exact absurd k r
  | cls k _ _=>exact absurd k y
  | yj k _ _=>exact absurd k y
  | Oz k _ _=>exact absurd k u
 | xC c r=>
  intro p a' d b;cases b with
  | any k=>omega
  | U6 _ k _ _ _=>exact absurd c k
  | xC _ k=>rw[r.zJ k];exact⟨rfl,rfl,rfl⟩
  | cls k _ _=>omega
  | yj k _ _=>omega
  | Oz k _ _=>omega
 | cls c r u=>
  intro p a' d b;cases b with
  | any k=>omega
  | U6 _ _ _ k _=>exact absurd c k
  | xC k _=>omega
  | cls _ _ k=>obtain⟨rfl,rfl,rfl⟩:=u.zJ k;exact⟨rfl,rfl,rfl⟩
  | yj _ k _=>exact absurd k r
  | Oz k _ _=>omega
 | yj c r u=>
  intro p a' d b;cases b with
  | any k=>omega
  | U6 _ _ _ k _=>exact absurd c k
  | xC k _=>omega
  | cls _ k _=>exact absurd r k
  | yj _ _ k=>obtain⟨rfl,rfl,rfl⟩:=u.zJ k;exact⟨rfl,rfl,rfl⟩
  | Oz k _ _=>omega
 | Oz c _ _ x=>
  intro p a' d b;cases b with
  | any k=>omega
  | U6 _ _ k _ _=>exact absurd c k
  | xC k _=>omega
  | cls k _ _=>omega
  | yj k _ _=>omega
  | Oz _ k _=>obtain⟨rfl,rfl,rfl⟩:=x k;exact⟨rfl,rfl,rfl⟩
 | GQ c r u=>
  intro p a' d b;cases b with
  | GQ _ _ _=>exact⟨rfl,rfl,rfl⟩
  | star k _=>exact absurd k c
  | plus k _=>exact absurd k r
  | opt k _=>exact absurd k u
 | star c _ x=>
  intro p a' d b;cases b with
  | GQ k _ _=>exact absurd c k
  | star _ k=>exact x k
  | plus k _=>omega
  | opt k _=>omega
 | plus c _ x=>
  intro p a' d b;cases b with
  | GQ _ k _=>exact absurd c k
  | star k _=>omega
  | plus _ k=>exact x k
  | opt k _=>omega
 | opt c _ x=>
  intro p a' d b;cases b with
  | GQ _ _ k=>exact absurd c k
  | star k _=>omega
  | plus k _=>omega
  | opt _ k=>exact x k
 | pc _ _ e f=>
  intro p a' d b;cases b with
  | pc k l=>obtain⟨rfl,rfl,rfl⟩:=e k;exact f l
 | Lb c=>
  intro p a' d b;cases b with
  | Lb _=>exact⟨rfl,rfl,rfl⟩
  | Aq k _ _=>exact absurd k c
 | Aq c _ _ e f=>
  intro p a' d b;cases b with
  | Lb k=>exact absurd c k
  | Aq _ k l=>obtain⟨rfl,rfl,rfl⟩:=e k;exact f l
 | br _ _ e f=>
  intro p a' d b;cases b with
  | br k l=>obtain⟨rfl,rfl,rfl⟩:=e k;exact f l
 | IK c=>
  intro p a' d b;cases b with
  | IK _=>exact⟨rfl,rfl,rfl⟩
  | zS k _ _=>exact absurd k c
 | zS c _ _ e f=>
  intro p a' d b;cases b with
  | IK k=>exact absurd c k
  | zS _ k l=>obtain⟨rfl,rfl,rfl⟩:=e k;exact f l
 | pa _ _ e f=>
  intro p a' d b;cases b with
  | pa k l=>obtain⟨rfl,rfl,rfl⟩:=e k;exact f l
theorem Act.zJ{i k r:Nat}{e p c l m t:Int}(h:Act s i k e c m)(f:Act s i r p l t):r=k/\p=e/\l=c/\t=m:=by
 cases h with
 | plain a u x y=>
  cases f with
  | plain d _ _ _=>unfold oF at *;exact⟨rfl,o_,rfl,rfl⟩
  | pop _ d=>exact absurd d u
  | bH _ d _=>exact absurd d x
  | push _ d _=>exact absurd d y
 | pop a b=>
  cases f with
  | plain _ d _ _=>exact absurd b d
  | pop d _=>unfold oF at *;exact⟨rfl,o_,rfl,rfl⟩
  | bH _ d _=>omega
  | push _ d _=>omega
 | bH a b _=>
  cases f with
  | plain _ _ d _=>exact absurd b d
  | pop _ d=>omega
  | bH d _ _=>unfold oF at *;exact⟨rfl,o_,rfl,rfl⟩
  | push _ d _=>omega
 | push a b _=>
  cases f with
  | plain _ _ _ d=>exact absurd b d
  | pop _ d=>omega
  | bH _ d _=>omega
  | push d _ _=>unfold oF at *;exact⟨rfl,o_,rfl,rfl⟩
theorem I6.zJ{i k f:Nat}{x x':aC}(h:I6 s i k x)(r:I6 s i f x'):f=k/\x'=x:=by
 cases h with
 | mk a b c d e=>
  cases r with
  | mk t u l y p=>obtain⟨rfl,rfl,rfl⟩:=c.zJ l;obtain⟨rfl,rfl,rfl,rfl⟩:=e.zJ p;exact⟨rfl,rfl⟩
theorem uk.zJ{i:Nat}{ls all:List aC}(h:uk s i ls all):∀{f:List aC},uk s i ls f->f=all:=by
 induction h with
 | done a=>
  intro f k;cases k with
  | done b=>obtain⟨_,rfl⟩:=a.zJ b;rfl
  | more b c _ _=>obtain⟨rfl,rfl⟩:=a.zJ b;exfalso;unfold dN at c;rw[if_neg (Nat.lt_irrefl _)]at c;omega
 | more a b _ _ l=>
  intro f k;cases k with
  | done c=>obtain⟨rfl,rfl⟩:=a.zJ c;exfalso;unfold dN at b;rw[if_neg (Nat.lt_irrefl _)]at b;omega
  | more c d _ e=>obtain⟨rfl,rfl⟩:=a.zJ c;exact l e
theorem uL.zero{all:List aC}{l no:Int}(h:uL s l no)(z:s.size<=300)(p:uk s 0 [] all)(t:zq Fy all)(u:zq MW all)(y:∀j,j<aV all->(gJ all j).length<=42):l=0:=by
 have c:∀(f:aC->Bool) (i:Nat),zq f all->nN f all i->False:=fun f i e d=>by obtain⟨⟨x,a,b⟩,_⟩:=d;have:=e x (mg_ a);rw[this]at b;cases b
 rcases h with ⟨a,_⟩ | ⟨_,k,b,_⟩ | ⟨_,f,d,h⟩
 .omega
 .obtain⟨q,e,i⟩:=p.UU;exact (b.at.not e i).elim
 .have e:=p.zJ d;subst e;rcases h with ⟨i,a,_⟩ | ⟨_,i,a,_⟩ | ⟨_,_,⟨m,a,b,_⟩ | ⟨_,r,_⟩⟩
  .exact (c _ i t a).elim
  .exact (c _ i u a).elim
  .have:=y m a;omega
  .exact r
theorem Nr.zero{all:List aC}{c:Int}{str:Y_}(h:Nr s c str)(t:s.size<=300)(d:uk s 0 [] all)(l:zq Fy all)(p:zq MW all)(u:∀j,j<aV all->(gJ all j).length<=42):c=0/\str=strOfNums (rT (nH all)):=by obtain⟨⟨no,r⟩,_,i⟩:=h;have e:=r.zero t d l p u;obtain⟨b,a,_,_,_,k⟩:=i e;have f:=d.zJ a;subst f;exact⟨e,k⟩
end
end Pu
end Go.Proofs.YtmccnmgaoppogabGreat
