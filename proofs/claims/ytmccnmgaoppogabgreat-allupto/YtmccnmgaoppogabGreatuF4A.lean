import Derived.Test.YtmccnmgaoppogabGreatuE24
namespace Go.Proofs.YtmccnmgaoppogabGreat
open Pu
set_option linter.all false
open Go.Proofs.Tryz Tryz
set_option maxRecDepth 100000
set_option maxHeartbeats 8000000
open Go.RowKit
variable {v:V_} {ps:List Pu.aJ} {xs:List V_} {B':Nat} {ops:Array Oper} {rest:List Oper}
def oP(t:Pu.aN × V_):List V_:=t.2::bZ t.1.longer
def Qx(ts:List (Pu.aN × V_)):List V_:=ts.flatMap oP
theorem Ui(a b:List (Pu.aN × V_)):Qx (a++b)=Qx a++Qx b:=by simp[Qx]
theorem yH(q:Pu.aN × V_)(r:List (Pu.aN × V_)):Qx (q::r)=oP q++Qx r:=rfl
structure Fd(B g:Nat)(ps:List Pu.aJ)(ss:List Pu.aN)(vp vs:V_)(ts:List (Pu.aN × V_))(W:W_):Prop where
 aQ:dh W g 204 [vp,vs]
 up:B<=g
 pl:DV 0 W vp ps
 own:W.ownsRow B 163 257 vs ts.length (Qx ts)
 ss:ts.map (·.1)=ss
 nx:∀t∈ts,fe W t.2 t.1.places
 ln:∀t∈ts,t.1.longer.length=256
section
variable {B g:Nat} {ps:List Pu.aJ} {ss:List Pu.aN} {vp vs:V_} {ts:List (Pu.aN × V_)} {W W':W_}
theorem Fd.below(h:Fd B g ps ss vp vs ts W)(a:B_ W W'):Fd B g ps ss vp vs ts W':=
 ⟨bO h.aQ a (bP h.aQ),h.up,h.pl.below a,bW h.own a dF,h.ss,fun t b=>(h.nx t b).below a,h.ln⟩
theorem Fd.len(h:Fd B g ps ss vp vs ts W):ts.length=ss.length:=by rw[<-h.ss,lm_]
end
theorem DV.len{B:Nat}{W:W_}(h:DV B W v ps):∃a c,v=.slice a ps.length c:=by obtain⟨f,b,d,_⟩:=h;obtain⟨a,c,e,_⟩:=eO b;exact⟨a,c,by rw[e,<-d,lm_]⟩
theorem DV.get{B:Nat}{W:W_}(h:DV B W v ps){p:Nat}{x:Pu.aJ}(c:ps[p]?=some x) :
  ∃g a d n f,v=s_ g ps.length a/\W.cell? (a_ g (p*257+256))=some (.slice d n f)/\fe W (.slice d n f) x.next/\∀b,b<256->W.cell? (a_ g (p*257+b))=some (.bool (x.takes b)):=by
 obtain⟨j,i,l,s⟩:=h;have e:ps.length=j.length:=by rw[<-l,lm_]
 rw[<-l,gm_]at c;cases hq:j[p]? with
 | none=>rw[hq]at c;cases c
 | some q=>rw[hq]at c;simp only[Option.map_some,Option.some.injEq]at c;subst c;have u:p<j.length:=(ge_.1 hq).1;obtain⟨g,a,r,_,_⟩:=dL i o_;subst r;have n1:=s q (mg_ hq);obtain⟨d,f,k,_⟩:=n1.form;refine⟨g,a,d,_,f,by rw[e],?_,by rw[<-k];exact n1,fun b t=>bV i (aci hq t)⟩;rw[<-k];exact bV i (GU hq)
def UL(l:List Nat)(w:W_)(e:Ending)(w':W_):Prop:=∃v,e=.returned v/\B_ w w'/\w'.ownsRow w.heap.size 3 1 v l.length (bZ l)
def Es(mode:Int)(acc:List Nat)(x:aD):List Nat:=if x.mode=mode then Pu.un acc x.pt.first else acc
theorem Wn(B n:Nat)(v:V_)(ls:List aD)(mode:Int)(w:W_)(h:Lm B w v ls)(R:ls.length<=1000)(hn:n<=1000)(d:∀x∈ls,nO n x.pt) :
  Calls prog 93 #[v,I_ mode] w (UL (jQ ls mode) w):=by
 obtain⟨av,cv,rfl,hv1,hv2⟩:=h.len;have K:=bL h;have N:=bL d;have a:Hid (B_ w (w.alloc (c_ #[] 3))):=kM _;clear h d;go_in;go_wp2_with fail;go_loopg [5,7,11] ls.length (fun gk e _ c b=>∃(k:Nat) (acc:List Nat) (r:V_),k<=ls.length/\gk=ls.length-k/\e=r/\c=I_ k/\sJ n acc/\(ls.drop k).foldl (Es mode) acc=jQ ls mode/\B_ w b/\b.ownsRow w.heap.size 3 1 r acc.length (bZ acc));exact⟨0,[],_,zl_ _,rfl,rfl,rfl,.nil _,rfl,a.o,tV _ _ _⟩;clear a;obtain⟨k,acc,r,kl,rfl,rfl,rfl,a,e,c,b⟩:=hrel;have i:=bL e;have A:=bL c;have D:=bL b;have C:=bL a;have T:=a.len;obtain⟨ar,cr,rfl,_,_⟩:=eO b;clear e c b a;by_cases H:k<ls.length
 .have V:=oL k ls.length;obtain⟨x,t⟩:=rG ls k H;have c:=N.o x (mg_ t);have DR:Hid ((ls.drop (k+1)).foldl (Es mode) (Es mode acc x)=jQ ls mode):=by have:=i.o;rw[List.drop_eq_getElem?_toList_append,t]at this;exact this
  clear i;obtain⟨g,U,j,u,p,l,z,q,ev,y,n1,G⟩:=(K.o.below A.o).get t;cases ev;have wi:=kZ k;have OM:=jJ k;have IC:(k:Int)<ls.length:=o_;have b:=(Br_ wr.heap.size wr).alloc dF (c_ (lC (x,.slice j u p,.slice l z q)).toArray 129);have a:=bL (ja A.o b);have e:Hid (dh (wr.alloc (c_ (lC (x,.slice j u p,.slice l z q)).toArray 129)) wr.heap.size 129 (lC (x,.slice j u p,.slice l z q))):=hn_ _ _;have f:=bL (bW D.o b dF);have E:=bL (n1.below b);have s:=bL y;have F:=bL c.1;have xl:=c.1.len;clear y t n1 G b D c;obtain⟨y,Y,S,md,⟨Z,G,la⟩,dn⟩:=x;simp only[lC]at a e s f E;simp only at F xl;simp only[Es]at DR;go_upto_region 5 with (refine wl_ rfl 129 (.tmp 13) rfl g (k*8) rfl _ _ s.o underlying129 rfl sN ?_);have x0:=bQ 0 e.o rfl;have x5:=bQ 5 e.o rfl;clear s e;generalize wr.alloc (c_ #[I_ y,I_ Y,I_ S,I_ md,.bool Z,.slice j u p,.slice l z q,.bool dn] 129)=Q at *;by_cases s:y=mode
  .have X:(y == mode)=true:=by simpa using s
   rw[if_pos s]at DR;go_wp2_with fail;refine (qh _ _ acc G Q (dH f.o (zl_ _)) E.o o_ o_).mono ?_;rintro e w3 ⟨u0,rfl,b,I⟩;have J:=bL (ja a.o b);have O:Hid (w3.ownsRow w.heap.size 3 1 u0 (Pu.un acc G).length (bZ (Pu.un acc G))):=dH I a.o.size;have L:=bL (C.o.un F.o);clear b I f E C F x0 x5;go_wp2;go_roundg (ls.length-(k+1));exact⟨k+1,_,_,o_,rfl,rfl,by go_num,L.o,DR.o,J.o,O.o⟩;omega
  .have X:(y == mode)=false:=by simpa using s
   rw[if_neg s]at DR;go_wp2;go_roundg (ls.length-(k+1));exact⟨k+1,_,_,o_,rfl,rfl,by go_num,C.o,DR.o,a.o,f.o⟩;omega
 .have V:=nI k ls.length;have e:k=ls.length:=o_;have a:Hid (jQ ls mode=acc):=by have:=i.o;rw[e,List.drop_length]at this;exact this.symm
  clear i e;go_wp2;go_ret;exact⟨_,rfl,A.o,by rw[a.o];exact D.o⟩
def U0(ps:List Pu.aJ)(acc:List Nat)(p:Nat):List Nat:=Pu.un acc (Pu.nx ps p)
theorem Rl(B g:Nat)(ps:List Pu.aJ)(ss:List Pu.aN)(vp vs:V_)(ts:List (Pu.aN × V_))(A:V_)(set:List Nat)(w:W_)(h:Fd B g ps ss vp vs ts w)(c:jh ps)(hl:ps.length<=1000)(u:fe w A set)(q:sJ ps.length set) :
  Calls prog 96 #[p_ g,A] w (UL (jq ps set) w):=by
 obtain⟨av,cv,rfl,T,U,V⟩:=u.form;have C:=bL h;have G:=bL c;have E:=bL u;have D:=bL q;have il:=q.len;have a:Hid (B_ w (w.alloc (c_ #[] 3))):=kM _;clear h c u q;go_in;go_wp2_with fail;go_loopg [5,7,11] set.length (fun gk e _ d b=>∃(k:Nat) (acc:List Nat) (r:V_),k<=set.length/\gk=set.length-k/\e=r/\d=I_ k/\sJ ps.length acc/\(set.drop k).foldl (U0 ps) acc=jq ps set/\B_ w b/\b.ownsRow w.heap.size 3 1 r acc.length (bZ acc));exact⟨0,[],_,zl_ _,rfl,rfl,rfl,.nil _,rfl,a.o,tV _ _ _⟩;clear a;obtain⟨k,acc,r,kl,rfl,rfl,rfl,a,i,e,d⟩:=hrel;have f:=bL i;have b:=bL e;have n:=bL d;have l:=bL a;have K:=a.len;obtain⟨ar,cr,rfl,_,_⟩:=eO d;clear i e d a;by_cases s:k<set.length
 .have Q:=oL k set.length;obtain⟨p,i⟩:=rG set k s;have t:p<ps.length:=D.o.2 p (mg_ i);obtain⟨x,j⟩:=rG ps p t;have d:Pu.nx ps p=x.next:=by unfold Pu.nx;rw[j]
  have DR:Hid ((set.drop (k+1)).foldl (U0 ps) (Pu.un acc x.next)=jq ps set):=by have:=f.o;rw[List.drop_eq_getElem?_toList_append,i]at this;show _=_;rw[<-this,<-d];rfl
  clear f;have e:=C.o.below b.o;obtain⟨gp,N,an,nn,cn,S,O,y,_⟩:=e.pl.get j;subst S;have L:=bQ 0 e.aQ rfl;obtain⟨gr,R,_,z⟩:=(E.o.below b.o).some o_;subst R;have rk:=z k p i;have a:=G.o x (mg_ j);have xl:=a.len;have I:=bL a;have J:=bL y;have wi:=kZ k;have Z:=jJ p;have Y:(p:Int)<ps.length:=o_;clear z e j i d a y;go_wp2_with fail;refine (qh _ _ acc x.next wr (dH n.o (zl_ _)) J.o o_ o_).mono ?_;rintro e X ⟨u0,rfl,a,y⟩;have z:=bL (ja b.o a);have H:Hid (X.ownsRow w.heap.size 3 1 u0 (Pu.un acc x.next).length (bZ (Pu.un acc x.next))):=dH y b.o.size;have F:=bL (l.o.un I.o);clear a y n L O rk;go_wp2;go_roundg (set.length-(k+1));exact⟨k+1,_,_,o_,rfl,rfl,by go_num,F.o,DR.o,z.o,H.o⟩;omega
 .have Q:=nI k set.length;have e:k=set.length:=o_;have a:Hid (jq ps set=acc):=by have:=f.o;rw[e,List.drop_length]at this;exact this.symm
  clear f e;go_wp2;go_ret;exact⟨_,rfl,b.o,by rw[a.o];exact n.o⟩
theorem Uo(B g:Nat)(ps:List Pu.aJ)(ss:List Pu.aN)(vp vs:V_)(ts:List (Pu.aN × V_))(A:V_)(set:List Nat)(b:Nat)(w:W_)(h:Fd B g ps ss vp vs ts w)(hl:ps.length<=1000)(s:fe w A set)(l:sJ ps.length set)(i:b<256) :
  Calls prog 129 #[p_ g,A,I_ b] w (UL (Pu.taking ps set b) w):=by
 obtain⟨av,cv,rfl,O,Q,R⟩:=s.form;have D:=bL h;have F:=bL s;have E:=bL l;have il:=l.len;have a:Hid (B_ w (w.alloc (c_ #[] 3))):=kM _;clear h s l;go_in;go_wp2_with fail;go_loopg [7,9,13] set.length (fun gk e _ d c=>∃(k:Nat) (acc:List Nat) (r:V_),k<=set.length/\gk=set.length-k/\e=r/\d=I_ k/\acc.length<=k/\acc++Pu.taking ps (set.drop k) b=Pu.taking ps set b/\B_ w c/\c.ownsRow w.heap.size 3 1 r acc.length (bZ acc));exact⟨0,[],_,zl_ _,rfl,rfl,rfl,dF,rfl,a.o,tV _ _ _⟩;clear a;obtain⟨k,acc,r,kl,rfl,rfl,rfl,I,e,i,c⟩:=hrel;have d:=bL e;have a:=bL i;have f:=bL c;obtain⟨Z,cr,rfl,_,_⟩:=eO c;clear e i c;by_cases n:k<set.length
 .have K:=oL k set.length;obtain⟨p,e⟩:=rG set k n;have q:p<ps.length:=E.o.2 p (mg_ e);obtain⟨x,t⟩:=rG ps p q;have c:Pu.aZ ps p b=x.takes b:=by unfold Pu.aZ;rw[t]
  have DR:acc++((if x.takes b=true then [p] else [])++Pu.taking ps (set.drop (k+1)) b)=Pu.taking ps set b:=by have:=d.o;rw[List.drop_eq_getElem?_toList_append,e]at this;rw[<-this];congr 1;unfold Pu.taking;simp only[Option.toList,List.singleton_append,List.filter_cons,c];split <;> simp_all
  clear d;have j:=D.o.below a.o;obtain⟨gp,J,Y,nn,cn,N,_,_,u⟩:=j.pl.get t;subst N;have c0:=bQ 0 j.aQ rfl;have z:=u b i;obtain⟨gr,L,_,y⟩:=(F.o.below a.o).some o_;subst L;have rk:=y k p e;have wi:=kZ k;have X:=jJ p;have V:(p:Int)<ps.length:=o_;have S:=jJ b;have T:(b:Int)<256:=o_;have sz:=a.o.size;clear y j t e c u;cases ht:x.takes b with
  | true=>
   rw[ht]at z DR;rw[if_pos rfl]at DR;have DR:=bL DR;go_wp2_with (at_builtin;go_must (refine gI rfl (.tmp 27) (.tmp 29) rfl w.heap.size _ acc [p] rfl (oa_ f.o _) (some (a_ wr.heap.size 0)) 1 1 rfl ⟨rfl,.inr ⟨_,rfl,fun u y j=>jc (xs:=[I_ p]) rfl u _ (by cases u with | zero=>simp at j;subst j;rfl | succ u=>simp at j)⟩⟩ (by simp;omega) (by simp;omega) ?_);intro v2 U y u);have j:B_ w U:=(a.o.alloc sz _).grown u (by simp;omega) (fun C h=>(ol_ f.o C h).1);have C:Hid ((acc++[p])++Pu.taking ps (set.drop (k+1)) b=Pu.taking ps set b):=by show _=_;rw[<-DR.o];simp
   have G:Hid ((acc++[p]).length<=k+1):=by show _<=_;simp;omega
   have H:=bL y;clear u y;go_roundg (set.length-(k+1));exact⟨k+1,acc++[p],_,o_,rfl,rfl,by go_num,G.o,C.o,j,H.o⟩;omega
  | false=>
   rw[ht]at z DR;rw[if_neg d_]at DR;have DR:=bL DR;go_wp2;go_roundg (set.length-(k+1));exact⟨k+1,acc,_,o_,rfl,rfl,by go_num,o_,DR.o,a.o,f.o⟩;omega
 .have K:=nI k set.length;have e:k=set.length:=o_;have c:Hid (Pu.taking ps set b=acc):=by have:=d.o;rw[e,List.drop_length]at this;show _=_;rw[<-this];exact List.append_nil _
  clear d e;go_wp2;go_ret;exact⟨_,rfl,a.o,by rw[c.o];exact f.o⟩
theorem Va(B g:Nat)(ps:List Pu.aJ)(ss:List Pu.aN)(vp vs:V_)(ts:List (Pu.aN × V_))(w:W_)(h:Fd B g ps ss vp vs ts w) :
  Calls prog 95 #[p_ g] w (fun e w'=>w'=w/\e=.returned (.bool (decide (ss.length<=42)))):=by
 have b:=bQ 1 h.aQ rfl;obtain⟨d,f,rfl,_,_⟩:=eO h.own;rw[h.len]at b;clear h;have c:decide ((ss.length:Int)<=42)=decide (ss.length<=42):=by
  by_cases a:ss.length<=42
  .rw [dt_ a,dt_ o_]
  .rw [dn_ a,dn_ o_]
 go_in;go_wp2;go_ret;exact⟨rfl,by rw[<-c];rfl⟩
def yE:List V_:=n_::List.replicate 256 (I_ 0)
theorem qf:yE.length=257:=by unfold yE;rw[lc_,lp_]
theorem yF:(prog.info? 163).map (fun i=>(i.zero,i.size,i.bytes))=some (some (.agg yE.toArray),257,2072):=k_
theorem Kb(w:W_):(zeroValue 163).run prog w=.ok (.agg yE.toArray) w:=by obtain⟨i,a,b,_⟩:=ip_ yF;simp[zeroValue,typeInfo,go_sem,a,b]
theorem Bf:(prog.info? 163).map (·.size)=some 257:=by obtain⟨i,a,_,b,_⟩:=ip_ yF;rw[a,Option.map_some,b]
theorem YO(a:Option Addr)(n c:Nat):prog.built 163 [(0,.slice a n c)]=some ((Value.slice a n c)::List.replicate 256 (I_ 0)).toArray:=k_
theorem mU{t:Pu.aN × V_}(h:t.1.longer.length=256):(oP t).length=257:=by simp[oP,iE,h]
theorem VO{ts:List (Pu.aN × V_)}(h:∀t∈ts,t.1.longer.length=256){p j:Nat}{q:Pu.aN × V_}(a:ts[p]?=some q)(e:j<257):(Qx ts)[p*257+j]?=(oP q)[j]?:=by
 induction ts generalizing p with
 | nil=>simp at a
 | cons z r d=>
  rw[yH];have c:=mU (h z (ms_ ..));cases p with
  | zero=>rw[List.getElem?_cons_zero]at a;cases a;rw[Nat.zero_mul,Nat.zero_add,al_ o_]
  | succ p=>rw[cs_]at a;rw[ar_ o_,c,(o_:(p+1)*257+j-257=p*257+j)];exact d (fun t b=>h t (mc_ _ b)) a
theorem Hm{t:Pu.aN × V_}{a:Option Addr}{n c:Nat}(h:t.2=.slice a n c):∀u∈oP t,u.oneCell'=true:=by
 intro u b;rcases mm_.1 b with e | e
 .rw [e,h];rfl
 .simp only[bZ,List.mem_map]at e;obtain⟨z,_,rfl⟩:=e;rfl
theorem Fd.get{B g:Nat}{ss:List Pu.aN}{vp vs:V_}{ts:List (Pu.aN × V_)}{W:W_}(h:Fd B g ps ss vp vs ts W){k:Nat}{x:Pu.aN}(d:ss[k]?=some x) :
  ∃e b a n c,vs=s_ e ss.length b/\ts[k]?=some (x,.slice a n c)/\W.rangeAt e (k*257) (oP (x,.slice a n c))/\fe W (.slice a n c) x.places/\x.longer.length=256:=by
 rw[<-h.ss,gm_]at d;cases hq:ts[k]? with
 | none=>rw[hq]at d;cases d
 | some q=>
  rw[hq]at d;simp only[Option.map_some,Option.some.injEq]at d;subst d;have f:=mg_ hq;have n1:=h.nx q f;obtain⟨a,c,l,_⟩:=n1.form;have z:k<ts.length:=(ge_.1 hq).1;obtain⟨e,b,r,_,_⟩:=dL h.own o_;have p:q=(q.1,.slice a q.1.places.length c):=by rw[<-l]
  refine⟨e,b,a,q.1.places.length,c,by rw[r,h.len],by rw[<-p],?_,by rw[<-l];exact n1,h.ln q f⟩;intro j u i;rw[<-p]at i;have y:j<257:=by have:=(ge_.1 i).1;rwa[mU (h.ln q f)]at this
  have s:=VO h.ln hq y;rw[i]at s;have t:=h.own;rw[r]at t;exact bV t s
structure Sk(B:Nat)(w w':W_):Prop where
 lo:Below B w w'
 jr:∀(k:Nat) (cs:Array V_) (t:TypeId) (fr:Nat × Nat),w.heap[k]?=some (c_ cs t fr)->t≠204->t≠163->w'.heap[k]?=some (c_ cs t fr)
section
variable {B:Nat} {w w' w'':W_}
theorem Sk.refl(B:Nat)(w:W_):Sk B w w:=⟨Br_ _ _,fun _ _ _ _ h _ _=>h⟩
theorem Sk.trans(h:Sk B w w')(b:Sk B w' w''):Sk B w w'':=⟨h.lo.trans b.lo,fun k a t fr e c d=>b.jr k a t fr (h.jr k a t fr e c d) c d⟩
theorem Sk.below(b:B<=w.heap.size)(h:B_ w w'):Sk B w w':=⟨h.mono b,fun k d t fr a _ _=>by
 have c:=(Array.getElem?_eq_some_iff.1 a).1;rw[h.block k c];exact a⟩
theorem Sk.grown{g d:Nat}{xs:List V_}(c:dh w g d xs)(j:B<=g)(a:d=204\/d=163)(h:w.grownBy w' (some g)):Sk B w w':=by
 refine⟨(Br_ _ _).grown h (by have:=bP c;omega) (fun k e=>by cases e;exact j),fun k n t fr b f i=>?_⟩;have l:=(Array.getElem?_eq_some_iff.1 b).1;rw[h.block k l (fun e=>by
  cases e;unfold dh at c;rw[c]at b;cases b;rcases a with a | a
  .exact f a
  .exact i a)]
 exact b
theorem Sk.row{size n:Nat}(b:w.ownsRow B 163 size v n xs)(j:B<=w.heap.size)(h:w.grownBy w' v.ownBlock):Sk B w w':=by
 refine⟨(Br_ _ _).grown h j (fun k a=>(ol_ b k a).1),fun k p t fr a q f=>?_⟩;have l:=(Array.getElem?_eq_some_iff.1 a).1;rw[h.block k l (fun e=>by
  rcases b.2 with ⟨rfl,_⟩ | ⟨g,c,d,rfl,_,i,_⟩
  .cases e
  .cases e;rw[i]at a;cases a;exact f rfl)]
 exact a
theorem Sk.fB{g t:Nat}(h:Sk B w w')(c:dh w g t xs)(a:t≠204)(b:t≠163):dh w' g t xs:=h.jr g _ t _ c a b
theorem Sk.rows{t size n:Nat}(h:Sk B w w')(a:w.ownsRow B' t size v n xs)(b:t≠204)(c:t≠163):w'.ownsRow B' t size v n xs:=by
 refine⟨a.1,?_⟩;rcases a.2 with h0 | ⟨g,cap,cur,h3,h4,h5,h6⟩
 .exact .inl h0
 .exact .inr ⟨g,cap,cur,h3,h4,h.jr g _ _ _ h5 b c,h6⟩
theorem Sk.jK{l:List Nat}(h:Sk B w w')(a:fe w v l):fe w' v l:=h.rows a d_ d_
theorem Sk.plm(h:Sk B w w')(a:DV B' w v ps):DV B' w' v ps:=by obtain⟨f,c,d,e⟩:=a;exact⟨f,h.rows c d_ d_,d,fun q b=>h.jK (e q b)⟩
theorem Sk.lm{ls:List aD}(h:Sk B w w')(c:Lm B' w v ls):Lm B' w' v ls:=by obtain⟨f,d,e,b⟩:=c;exact⟨f,h.rows d d_ d_,e,fun q a=>⟨(b q a).1,(b q a).2.1,h.jK (b q a).2.2.1,h.jK (b q a).2.2.2⟩⟩
end
theorem Bo{w:W_}{o:Oper}{a:Act}{Q:Exit->Act->W_->Prop}(d:o.guard=none)(s x:Operand)
  (z:o.op=.call { callee:=.builtin .append,args:=#[s,x],argTypes:=#[131,131] }) (base:Nat) (v:V_) (ts:List (Pu.aN × V_)) (C:a.eval s=v) (p:w.ownsRow base 163 257 v ts.length (Qx ts))
  (c:Nat) (q:Pu.aN × V_) (D:a.eval x=s_ c 1 1) (t:dh w c 163 (oP q)) (A:∀u∈oP q,u.oneCell'=true) (n:q.1.longer.length=256) (G:ts.length<=1000) (F:base<=w.heap.size)
  (h:∀b w',w'.ownsRow base 163 257 b (ts++[q]).length (Qx (ts++[q]))->w.grownBy w' v.ownBlock->wpList prog ops Q rest (a.put o.dst b) w'):wpList prog ops Q (o::rest) a w:=by
 obtain⟨E,f,i,k,l⟩:=ip_ yF;refine wo_ _ d s x 131 z base 163 E _ 257 2072 underlying131 f i k l (by simp[Value.cells,qf]) d_ v ts.length (Qx ts) C p (a_ c 0) 1 1 (oP q) D (by rw[mU n]) ?_ A (by unfold maxLen;omega) o_ F ?_
 .intro j y e;have:=bN t e;simpa [add_eq]using this
 .intro b w' j r _;refine h b w' ?_ r;rw[la_,Ui];have e:Qx [q]=oP q:=by simp[Qx]
  rw[e];exact j
theorem pG{P:Program}{w:W_}{o:Oper}{a:Act}{Q:Exit->Act->W_->Prop}(b:o.guard=none)(t:TypeId)(i:Nat)(x:Operand)(v:V_)(e:o.op=.build t #[(i,x)])(j:a.eval x=v)(cells:Array V_)(d:P.built t [(i,v)]=some cells)
  (h:wpList P ops Q rest (a.put o.dst (.agg cells)) w):wpList P ops Q (o::rest) a w:=
 wpList_plain b fun K c=>by subst j;have f:=run_build (P:=P) w t #[(i,a.eval x)] cells d;unfold Oper.wp execOp;simp only[e,Sem.run_bind,List.map_toArray,List.map_cons,List.map_nil];rw[f];exact c _ _ h
theorem Ib{P:Program}{w:W_}{o:Oper}{a:Act}{Q:Exit->Act->W_->Prop}(k:o.guard=none)(t e:TypeId)(x:Operand)(c:List V_)(q:o.op=.buildSlice t 1 #[(0,x)])(u:a.eval x=.agg c.toArray)
  (j:TypeInfo) (z:List V_) (size:Nat) (s:P.underlying t=some (.slice e)) (l:P.info? e=some j) (y:j.zero=some (.agg z.toArray)) (r:j.size=size) (n:z.length=size) (d:c.length=size) (b:¬1*size > 2 ^ 24) (f:¬1*size=0)
  (h:wpList P ops Q rest (a.put o.dst (s_ w.heap.size 1 1)) (w.alloc (c_ c.toArray e))):wpList P ops Q (o::rest) a w:=
 wpList_plain k fun K p=>by refine fG t e 0 x (.agg c.toArray) q u c.toArray j _ size s l y r b f ?_ (p _ _ h);rw[sP];have:=vI (fun i=>some (i*size,size)) c ((List.range (1*size)).map fun x=>((Value.agg z.toArray).cells)[x % (Value.agg z.toArray).cells.size]!) (by rw[d];simp) (by rw[d,lm_,List.length_range];omega);rw[d,List.drop_of_length_le (by rw[lm_,List.length_range];omega),List.append_nil]at this;exact this
namespace Pu
theorem Sd(t:List Nat)(ss:List aN):∀(k:Nat) (x:aN),ss[k]?=some x->iV t (ss.drop k)=if x.places=t then 0 else iV t (ss.drop (k+1))+1:=by intro k x h;rw[List.drop_eq_getElem?_toList_append,h];rfl
theorem OJ(t:List Nat):∀ss:List aN,iV t ss<=ss.length:=by
 intro ss;induction ss with
 | nil=>exact dF
 | cons s r a=>
  unfold iV;split
  .exact zl_ _
  .simp;exact a
end Pu
def agt(B g:Nat)(ps:List Pu.aJ)(a:List Pu.aN)(n:Nat)(w:W_)(e:Ending)(w':W_):Prop:=
 e=.returned (I_ n)/\Sk B w w'/\∃vp vs ts,Fd B g ps a vp vs ts w'
theorem age:bZ Pu.kL=List.replicate 256 (I_ 0):=by unfold bZ Pu.kL;rw[List.map_replicate];rfl
theorem acC(l:List Nat)(v:V_):oP (⟨l,Pu.kL⟩,v)=v::List.replicate 256 (I_ 0):=by unfold oP;rw[age]
theorem Tx(B g:Nat)(ps:List Pu.aJ)(ss:List Pu.aN)(vp vs:V_)(ts:List (Pu.aN × V_))(vr:V_)(t:List Nat)(w:W_)(h:Fd B g ps ss vp vs ts w)(hl:ss.length<=500)(T:fe w vr t)(hi:t.length<=1000)(H:∀x∈ss,x.places.length<=1000) :
  Calls prog 130 #[p_ g,vr] w (agt B g ps (iB ss t) (iV t ss) w):=by
 obtain⟨a,b,rfl,hv1,hv2,hv3⟩:=T.form;obtain⟨as2,cs2,rfl,hs1,hs2⟩:=eO h.own;obtain⟨is,R,U,V,hz2⟩:=ip_ yF;have I:=h.len;have N:=bL h;have HR:=bL T;have HS:=bL H;have zv:=Kb;have K:B<=w.heap.size:=by have:=h.up;have:=bP h.aQ;omega
 have E:=bQ 1 h.aQ rfl;rw[I]at E;clear h T H;go_in;go_wp2_with fail;clear E;go_loopg [5,6,12] ss.length (fun gk _ _ c d=>∃k:Nat,k<=ss.length/\gk=ss.length-k/\c=I_ k/\iV t ss=k+iV t (ss.drop k)/\B_ w d);exact⟨0,zl_ _,rfl,rfl,i_,Br_ _ _⟩;obtain⟨k,kl,rfl,rfl,d,c⟩:=hrel;have r:=bL d;have n:=bL c;clear d c;by_cases G:k<ss.length
 .have d1:=oL k ss.length;obtain⟨x,y⟩:=rG ss k G;have Q:=HS.o x (mg_ y);have f:=N.o.below n.o;obtain⟨O,J,d,nx,l,F,_,c,A,u⟩:=f.get y;rw[<-I]at F;cases F;have Z:=kZ k;have Y:=jJ k;have X:(k:Int)<ss.length:=o_;have DR:=bL (Sd t ss k x y);have e:Hid (dh (wr.alloc (c_ yE.toArray 163)) wr.heap.size 163 yE):=hn_ _ _;have s:(oP (x,.slice d nx l)).length=257:=mU u;have p:Hid (B_ w (wr.alloc (c_ yE.toArray 163))):=n.o.alloc n.o.size _;have i:=bL (lh (g:=wr.heap.size) n.o.size (oP (x,.slice d nx l)) 0 _ p.o);have z:=bL (pO (oP (x,.slice d nx l)) e.o (by rw[qf,s]));have E:=bL c;have C:=bL A;clear c A f;go_upto_region 4 with (first | (refine wl_ rfl 163 (.tmp 15) rfl O (k*257) rfl _ _ E.o underlying163 rfl (by rw[s];exact Bf) ?_) | (refine ws_ rfl 163 (.tmp 6) (.tmp 16) rfl wr.heap.size 0 (oP (x,.slice d nx l)).toArray rfl rfl (by have:=mq e.o;rw[qf]at this;simpa [s]using this) (by simp only[List.size_toArray,s];exact Bf) (oc_ (Hm rfl)) ?_));have c:B_ wr ((wr.alloc (c_ yE.toArray 163)).setCells wr.heap.size 0 (oP (x,.slice d nx l))):=lh (g:=wr.heap.size) dF _ 0 _ ((Br_ wr.heap.size wr).alloc dF _);have D:=bL (C.o.below c);have A:=bL (HR.o.below i.o);have L:=bQ 0 z.o rfl;clear c C z e E p;generalize (wr.alloc (c_ yE.toArray 163)).setCells wr.heap.size 0 (oP (x,.slice d nx l))=p at *;go_wp2_with fail;refine (acp _ _ x.places t p D.o A.o o_ o_).mono ?_;rintro e z ⟨rfl,c⟩;have f:=bL (ja i.o c);clear c i D A L;by_cases heq:x.places=t
  .rw [dt_ heq];have c:=DR.o;rw[if_pos heq]at c;have i:Hid (iV t ss=k):=by show _=_;rw[r.o,c];rfl
   have L:Hid (iB ss t=ss):=by show _=_;unfold iB;rw[i.o,if_pos G]
   clear c DR r heq;go_wp2;go_ret;refine⟨?_,.below K f.o,?_⟩
   .rw [i.o];rfl
   .rw [L.o];exact⟨_,_,_,N.o.below f.o⟩
  .rw [dn_ heq];have c:=DR.o;rw[if_neg heq]at c;have i:Hid (iV t ss=(k+1:Nat)+iV t (ss.drop (k+1))):=by show _=_;rw[r.o,c];omega
   clear c DR r heq;go_wp2;go_roundg (ss.length-(k+1));exact⟨k+1,o_,rfl,by go_num,i.o,f.o⟩;omega
 .have d1:=nI k ss.length;have e:k=ss.length:=o_;have i:Hid (iV t ss=ss.length):=by have:=r.o;rw[e,List.drop_length]at this;exact this
  have L:Hid (iB ss t=ss++[⟨t,Pu.kL⟩]):=by show _=_;unfold iB;rw[i.o,if_neg o_]
  clear r e;have f:=bL (N.o.below n.o);have E:=bQ 1 f.o.aQ rfl;have f1:=bM f.o.aQ 1;rw[I]at E;have d:=(Br_ wr.heap.size wr).alloc dF (c_ (oP (⟨t,Pu.kL⟩,.slice a t.length b)).toArray 163);have c:=bL (f.o.below d);have A:=bL ((HR.o.below n.o).below d);have BN:Hid (dh (wr.alloc (c_ (oP (⟨t,Pu.kL⟩,.slice a t.length b)).toArray 163)) wr.heap.size 163 (oP (⟨t,Pu.kL⟩,.slice a t.length b))):=hn_ _ _;have p:=bL (ja n.o d);have O:=bL (YO a t.length b);rw[<-acC t]at O;have wn:Pu.kL.length=256:=by unfold Pu.kL;rw[lp_]
  have s:(oP (⟨t,Pu.kL⟩,.slice a t.length b)).length=257:=mU wn;have Z:=p.o.size;have bb:B<=(wr.alloc (c_ (oP (⟨t,Pu.kL⟩,.slice a t.length b)).toArray 163)).heap.size:=lt_ K Z;have gls:=bP f.o.aQ;have gne:g≠wr.heap.size:=o_;clear d;go_upto_region 8 with (first | (refine pG rfl 163 0 (.tmp 28) (.slice a t.length b) rfl rfl _ O.o ?_) | (refine Ib rfl 131 163 (.tmp 29) (oP (⟨t,Pu.kL⟩,.slice a t.length b)) rfl rfl is yE 257 underlying131 R U V qf s o_ o_ ?_) | (at_builtin;refine Bo rfl (.tmp 27) (.tmp 30) rfl B _ ts (by rw[<-I];rfl) c.o.own wr.heap.size (⟨t,Pu.kL⟩,.slice a t.length b) rfl BN.o (Hm rfl) wn o_ bb ?_;intro v4 J vM Y;obtain⟨D,F,rfl,_,_⟩:=eO vM;have e:=dZ c.o.own c.o.aQ d_ Y;have k1:=bN (j:=1) e rfl;have X:=bM e 1;have d:=bL e;have y:=bL vM;have u:=bL Y;clear e vM Y E f1));have l4:(ts++[((⟨t,Pu.kL⟩:Pu.aN),Value.slice a t.length b)]).length=ss.length+1:=by simp[I]
  have Q:=gs_ J g 1 (.slice D (ts++[((⟨t,Pu.kL⟩:Pu.aN),Value.slice a t.length b)]).length F);have K4:=Sk.row c.o.own bb u.o;have z:=K4.trans (.grown d.o c.o.up (.inl rfl) Q);have l:Hid (Fd B g ps (ss++[⟨t,Pu.kL⟩]) vp (.slice D (ts++[((⟨t,Pu.kL⟩:Pu.aN),Value.slice a t.length b)]).length F) (ts++[(⟨t,Pu.kL⟩,.slice a t.length b)]) (J.setCell (a_ g 1) (.slice D (ts++[((⟨t,Pu.kL⟩:Pu.aN),Value.slice a t.length b)]).length F))):=by
   refine⟨cK d.o 1 _,c.o.up,z.plm c.o.pl,dG y.o d.o d_ Q,by simp[c.o.ss],fun q S=>?_,fun q S=>?_⟩
   .rcases ma_.1 S with h | h
    .exact z.jK (c.o.nx q h)
    .simp at h;subst h;exact z.jK A.o
   .rcases ma_.1 S with h | h
    .exact c.o.ln q h
    .simp at h;subst h;exact wn
  have C:Hid (Sk B w (J.setCell (a_ g 1) (.slice D (ts++[((⟨t,Pu.kL⟩:Pu.aN),Value.slice a t.length b)]).length F))):=(Sk.below K p.o).trans z;rw[l4]at l C;clear Q K4 z y u c A BN p O f d;generalize J.setCell (a_ g 1) (.slice D (ss.length+1) F)=c at *;have d:=bQ 1 l.o.aQ rfl;have f:IntKind.i64.wrap ((ss.length:Int)+1-1)=(ss.length:Int):=by rw[oD _ o_ o_];omega
  clear k1 X;go_wp2;go_ret;exact⟨by rw[i.o];rfl,C.o,by rw[L.o];exact⟨_,_,_,l.o⟩⟩
end Go.Proofs.YtmccnmgaoppogabGreat
