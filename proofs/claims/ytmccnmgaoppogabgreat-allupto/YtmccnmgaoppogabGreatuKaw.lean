import Derived.Test.YtmccnmgaoppogabGreatuFB
import Derived.Test.YtmccnmgaoppogabGreatuKar
import Derived.Test.YtmccnmgaoppogabGreatuRA
import Derived.Test.YtmccnmgaoppogabGreatuWB
namespace Go.Proofs.YtmccnmgaoppogabGreat
open Pu
set_option linter.all false
open Go.Proofs.Tryz Tryz
set_option maxRecDepth 100000
set_option maxHeartbeats 8000000
open Go.RowKit
variable {B B' bx g gc ge gr i k n p:Nat} {v vc ve vr:V_} {xs:List V_} {t:List Nat} {W w:W_} {x:aC} {L:List (List Nat)}
structure Kt(t0:Nat)(w w':W_):Prop where
 jr:∀(k:Nat) (cs:Array V_) (t:TypeId) (fr:Nat × Nat),w.heap[k]?=some (c_ cs t fr)->t≠t0->w'.heap[k]?=some (c_ cs t fr)
section
variable {t0:Nat} {w w' w'':W_}
theorem Kt.below(h:B_ w w'):Kt t0 w w':=⟨fun k c t fr a _=>by
 have b:=(Array.getElem?_eq_some_iff.1 a).1;rw[h.block k b];exact a⟩
theorem Kt.trans(h:Kt t0 w w')(c:Kt t0 w' w''):Kt t0 w w'':=⟨fun k b t fr d a=>c.jr k b t fr (h.jr k b t fr d a) a⟩
theorem Kt.row{size:Nat}(l:w.ownsRow B t0 size v n xs)(h:w.grownBy w' v.ownBlock):Kt t0 w w':=⟨fun k r t fr a d=>by
 have j:=(Array.getElem?_eq_some_iff.1 a).1;rw[h.block k j (fun e=>by
  rcases l.2 with ⟨rfl,_⟩ | ⟨g,b,c,rfl,_,f,_⟩
  .cases e
  .cases e;rw[f]at a;cases a;exact d rfl)]
 exact a⟩
theorem Kt.fB(b:dh w g t0 xs)(h:w.grownBy w' (some g)):Kt t0 w w':=⟨fun k f t fr a c=>by
 have d:=(Array.getElem?_eq_some_iff.1 a).1;rw[h.block k d (fun e=>by
  cases e;unfold dh at b;rw[b]at a;cases a;exact c rfl)]
 exact a⟩
theorem Kt.block{t:Nat}(h:Kt t0 w w')(b:dh w g t xs)(a:t≠t0):dh w' g t xs:=h.jr g _ t _ b a
theorem Kt.rows{t size:Nat}(h:Kt t0 w w')(a:w.ownsRow B' t size v n xs)(b:t≠t0):w'.ownsRow B' t size v n xs:=by
 refine⟨a.1,?_⟩;rcases a.2 with h0 | ⟨g,cap,cur,h3,h4,h5,h6⟩
 .exact .inl h0
 .exact .inr ⟨g,cap,cur,h3,h4,h.jr g _ _ _ h5 b,h6⟩
theorem Kt.jK{l:List Nat}(h:Kt t0 w w')(b:fe w v l)(a:3≠t0):fe w' v l:=h.rows b a
theorem Kt.plm{ps:List Pu.aJ}(h:Kt t0 w w')(c:DV B' w v ps)(a:3≠t0)(b:248≠t0):DV B' w' v ps:=by obtain⟨l,e,f,j⟩:=c;exact⟨l,h.rows e b,f,fun q d=>h.jK (j q d) a⟩
theorem Kt.lm{ls:List aD}(h:Kt t0 w w')(e:Lm B' w v ls)(c:3≠t0)(d:129≠t0):Lm B' w' v ls:=by obtain⟨l,f,j,b⟩:=e;exact⟨l,h.rows f d,j,fun q a=>⟨(b q a).1,(b q a).2.1,h.jK (b q a).2.2.1 c,h.jK (b q a).2.2.2 c⟩⟩
theorem Kt.YR{ss:List Pu.aN}(h:Kt t0 w w')(c:rC B' w v ss)(a:3≠t0)(b:163≠t0):rC B' w' v ss:=by obtain⟨r,e,f,j,l⟩:=c;exact⟨r,h.rows e b,f,fun t d=>h.jK (j t d) a,l⟩
end
namespace Pu
def aV(a:List aC):Nat:=(mH (dx a).1).toNat
def gJ(a:List aC)(m:Nat):List aN:=qz (dx a).1 (dx a).2 (m:Int)
def mh(a:List aC)(m:Nat):List (List aN):=(List.range m).map (gJ a)
def uL(s:Y_)(b no:Int):Prop:=
 (300<s.size/\b=9/\no=0)\/(s.size<=300/\∃k:Nat,xF s 0 0 k/\b=10/\no=k)\/
 (s.size<=300/\∃a,uk s 0 [] a/\
  ((∃i:Nat,nN Fy a i/\b=11/\no=i)\/(zq Fy a/\∃i:Nat,nN MW a i/\b=12/\no=i)\/
   (zq Fy a/\zq MW a/\((∃m:Nat,m<aV a/\42<(gJ a m).length/\(∀j,j<m->(gJ a j).length<=42)/\b=13/\no=m)\/((∀j,j<aV a->(gJ a j).length<=42)/\b=0/\no=0)))))
theorem agX{ls:List aD}(c:∀x∈ls,0<=x.mode/\x.mode<=3/\0<=x.md/\x.md<=3):∀h:Int,0<=h->h<=3->0<=ls.foldl yV h/\ls.foldl yV h<=3:=by
 induction ls with
 | nil=>intro h a b;exact⟨a,b⟩
 | cons x ls e=>
  intro h a b;have f:=c x (ms_ ..);refine e (fun y d=>c y (mc_ _ d)) _ ?_ ?_
  .unfold yV;split <;> (try split) <;> omega
  .unfold yV;split <;> (try split) <;> omega
theorem Gv{a:List aC}(h:∀x∈a,Np x):mH (dx a).1=(aV a:Int)/\1<=aV a/\aV a<=4:=by
 have:=agX (ls:=(dx a).1) (by
  intro y f;obtain⟨k,c⟩:=gf_ f;have d:k<a.length:=by rw[<-(jw a).n];exact (ge_.1 c).1
  have e:=gg_ d;obtain⟨j,b,_⟩:=qP a e;rw[c]at b;cases b;have:=h _ (List.getElem_mem d);unfold Np at this;simp only[aC.lp];omega) 0 o_ o_
 unfold aV mH;omega
end Pu
def Zj(B:Nat)(W:W_)(v:V_)(b:List (List Pu.aN)):Prop:=∃d:List V_,W.ownsRow B 131 1 v d.length d/\d.length=b.length/\∀(j:Nat) (u:V_) (e:List Pu.aN),d[j]?=some u->b[j]?=some e->rC B W u e/\∃a n c,u=.slice a n c
theorem Zj.below{B:Nat}{W d:W_}{v:V_}{c:List (List Pu.aN)}(h:Zj B W v c)(f:B_ W d):Zj B d v c:=by obtain⟨y,r,s,e⟩:=h;exact⟨y,bW r f dF,s,fun j u l a b=>⟨(e j u l a b).1.below f,(e j u l a b).2⟩⟩
theorem rC.form{ss:List Pu.aN}(h:rC B W v ss):∃a c,v=.slice a ss.length c:=by obtain⟨f,b,d,_⟩:=h;obtain⟨a,c,e,_⟩:=eO b;exact⟨a,c,by rw[e,<-d,lm_]⟩
theorem rC.mono{ss:List Pu.aN}(h:rC B W v ss)(c:B'<=B):rC B' W v ss:=by obtain⟨d,a,b⟩:=h;exact⟨d,dH a c,b⟩
theorem ae8:(prog.info? 131).map (fun i=>(i.zero,i.size,i.bytes))=some (some n_,1,24):=k_
theorem CR{c:Array Oper}{rest:List Oper}{o:Oper}{a:Act}{Q:Exit->Act->W_->Prop}(f:o.guard=none)(s x:Operand)
  (E:o.op=.call { callee:=.builtin .append,args:=#[s,x],argTypes:=#[123,123] }) (base:Nat) (v:V_) (b:List V_) (G:a.eval s=v) (C:w.ownsRow base 131 1 v b.length b)
  (e:Nat) (q:V_) (H:a.eval x=s_ e 1 1) (D:dh w e 131 [q]) (F:q.oneCell'=true) (K:b.length<=1000) (J:base<=w.heap.size)
  (h:∀d w',w'.ownsRow base 131 1 d (b++[q]).length (b++[q])->w.grownBy w' v.ownBlock->wpList prog c Q rest (a.put o.dst d) w'):wpList prog c Q (o::rest) a w:=by
 obtain⟨I,l,r,z,A⟩:=ip_ ae8;refine wo_ _ f s x 123 E base 131 I _ 1 24 underlying123 l r z A rfl d_ v b.length b G C (a_ e 0) 1 1 [q] H rfl ?_ (fun u j=>by simp at j;rw[j];exact F) (by unfold maxLen;omega) o_ J ?_
 .intro j y u;have:=bN D u;simpa [add_eq]using this
 .intro d w' j u _;refine h d w' ?_ u;rw[la_];exact j
def aiK(s:Y_)(w:W_)(e:Ending)(w':W_):Prop:=∃a b c h f no,e=.returned (.tuple #[.agg #[a,b,c],h,I_ f,I_ no])/\B_ w w'/\uL s f no/\(f≠0->Value.agg #[a,b,c]=zB/\h=n_)/\
 (f=0->∃d l z u r A y,uk s 0 [] d/\zq Fy d/\zq MW d/\(∀j,j<Pu.aV d->(gJ d j).length<=42)/\a=I_ (Pu.aV d:Nat)/\b=.slice l z u/\c=.slice r A y/\Lm w.heap.size w' b (dx d).1/\DV w.heap.size w' c (dx d).2/\Zj w.heap.size w' h (mh d (Pu.aV d)))
structure RI(w:W_)(gR gB:Nat)(all:List aC)(al:Option Addr)(nl cl:Nat)(ap:Option Addr)(np cp:Nat)(m:Nat)(fv:V_)(W:W_):Prop where
 be:B_ w W
 r:dh W gR 122 [I_ 0,n_,n_]
 b:dh W gB 122 [I_ (Pu.aV all:Nat),.slice al nl cl,.slice ap np cp]
 lm:Lm w.heap.size W (.slice al nl cl) (dx all).1
 pl:DV w.heap.size W (.slice ap np cp) (dx all).2
 fd:Zj w.heap.size W fv (mh all m)
 ok:∀j,j<m->(gJ all j).length<=42
 ap:w.heap.size<=gR
theorem RI.below{w:W_}{gR r:Nat}{b:List aC}{d:Option Addr}{s f:Nat}{e:Option Addr}{u j m:Nat}{l:V_}{W c:W_}(h:RI w gR r b d s f e u j m l W)(a:B_ W c):RI w gR r b d s f e u j m l c:=
 ⟨ja h.be a,bO h.r a (bP h.r),bO h.b a (bP h.b),h.lm.below a,h.pl.below a,h.fd.below a,h.ok,h.ap⟩
namespace Pu
def dQ(ls:List aC):Nat:=(ls.map (fun x=>x.re.size)).sum
theorem wQ(a b:List aC):dQ (a++b)=dQ a+dQ b:=by simp[dQ]
theorem Tj(x:aC)(a:List aC):dQ (x::a)=x.re.size+dQ a:=by simp[dQ]
theorem Wm(x:aC)(a:List aC):base (x::a)=x.re.leaves+base a:=by simp[base]
theorem uS(ls:List aC)(k:Nat):dQ (ls.take k)<=dQ ls:=by have:=wQ (ls.take k) (ls.drop k);rw[List.take_append_drop]at this;omega
theorem jo{ls:List aC}(h:ls[k]?=some x):dQ (ls.take (k+1))=dQ (ls.take k)+x.re.size:=by rw[List.take_add_one,h,wQ];simp[dQ]
theorem xn(ls:List aC){j:Nat}(h:j<=k):dQ (ls.take j)<=dQ (ls.take k):=by have:=uS (ls.take k) j;rwa[List.take_take,Nat.min_eq_left h]at this
def nuG:List aC->Nat->Nat->Nat->Nat
 | [],_,_,_=>0
 | x::r,n,m,p=>if p<n+x.re.leaves then nu x.re n m p else nuG r (n+x.re.leaves) (m+x.re.size) p
theorem ahj:∀(ls:List aC) (n m i:Nat) (x:aC) (p:Nat),ls[i]?=some x->Rg x.re (n+base (ls.take i)) p->nuG ls n m p=nu x.re (n+base (ls.take i)) (m+dQ (ls.take i)) p:=by
 intro ls;induction ls with
 | nil=>intro n m i x p h;simp at h
 | cons y r c=>
  intro n m i x p h a;cases i with
  | zero=>simp at h;subst h;simp only[List.take_zero,show base []=0 from rfl,show dQ []=0 from rfl,Nat.add_zero]at *;unfold nuG;rw[if_pos a.2]
  | succ i=>
   have b:r[i]?=some x:=by simpa using h
   rw[List.take_succ_cons,Wm,Tj]at *;unfold nuG;rw[if_neg (by have:=a.1;omega),c (n+y.re.leaves) (m+y.re.size) i x p b (by rw[Nat.add_assoc];exact a)];rw[Nat.add_assoc,Nat.add_assoc]
def OnM(ls:List aC)(mode:Int)(p:Nat):Prop:=∃i x,ls[i]?=some x/\x.mode=mode/\Rg x.re (base (ls.take i)) p
abbrev Vz(ls:List aC)(p:Nat):Nat:=nuG ls 0 0 p
section
variable {ls:List aC} {q:List aD × List aJ} {ns:List aF} {mode:Int}
theorem uT(h:ls[i]?=some x)(a:Rg x.re (base (ls.take i)) p):Vz ls p=nu x.re (base (ls.take i)) (dQ (ls.take i)) p:=by have:=ahj ls 0 0 i x p h (by rw[Nat.zero_add];exact a);rwa[Nat.zero_add,Nat.zero_add]at this
theorem ab7(h:ls[i]?=some x)(a:Rg x.re (base (ls.take i)) p):Vz ls p<dQ ls:=by rw[uT h a];have b:=(Dt x.re (m:=dQ (ls.take i)) a).2;have c:=jo h;have d:=uS ls (i+1);omega
theorem VB{j d:Nat}{y:aC}(h:ls[i]?=some x)(c:Rg x.re (base (ls.take i)) p)(b:ls[j]?=some y)(a:Rg y.re (base (ls.take j)) d)(e:Vz ls p=Vz ls d):p=d:=by
 rw[uT h c,uT b a]at e;have l:=Dt x.re (m:=dQ (ls.take i)) c;have r:=Dt y.re (m:=dQ (ls.take j)) a;have f:i=j:=by
  rcases Nat.lt_trichotomy i j with k | k | k
  .have:=xn ls (show i+1<=j from k);rw[jo h]at this;omega
  .exact k
  .have:=xn ls (show j+1<=i from k);rw[jo b]at this;omega
 subst f;rw[h]at b;cases b;exact ahk x.re c a e
theorem OnM.lt(h:OnM ls mode p):Vz ls p<dQ ls:=by obtain⟨i,x,a,_,b⟩:=h;exact ab7 a b
theorem OnM.inj{a:Nat}(h:OnM ls mode p)(b:OnM ls mode a)(e:Vz ls p=Vz ls a):p=a:=by obtain⟨i,x,c,_,d⟩:=h;obtain⟨j,y,f,_,l⟩:=b;exact VB c d f l e
structure zi(ls:List aC)(ns:List aF):Prop where
 at':∀i x,ls[i]?=some x->ag ns x.re (dQ (ls.take i))
 len:ns.length=dQ ls
def tkN(ns:List aF)(k c:Nat):Bool:=match ns[k]? with
 | some x=>decide (x.kind=1) && x.inn c
 | none=>false
theorem Ki(h:CU ls q)(b:ls[i]?=some x)(f:Rg x.re (base (ls.take i)) p)(c:Nat):Pu.aZ q.2 p c=true↔Tk x.re (base (ls.take i)) p c:=by
 rw[h.aZ];constructor
 .rintro ⟨j,y,d,a⟩;have e:=uF d b a.rg f;subst e;rw[b]at d;cases d;exact a
 .intro a;exact⟨i,x,b,a⟩
theorem JM(h:zi ls ns)(b:ls[i]?=some x)(a:Rg x.re (base (ls.take i)) p)(c:Nat):tkN ns (Vz ls p) c=true↔Tk x.re (base (ls.take i)) p c:=by obtain⟨T,d,e⟩:=ab4 x.re (base (ls.take i)) (dQ (ls.take i)) c p a;have:=h.at' i x b _ _ d;have r:=Dt x.re (m:=dQ (ls.take i)) a;rw[show dQ (ls.take i)+(nu x.re (base (ls.take i)) (dQ (ls.take i)) p-dQ (ls.take i))=nu x.re (base (ls.take i)) (dQ (ls.take i)) p by omega,<-uT b a]at this;rw[e];unfold tkN;rw[this];simp
def fiL(ls:List aC)(mode:Int)(i k:Nat):Bool:=match ls[i]? with
 | some x=>decide (x.mode=mode) && Iy x.re (dQ (ls.take i)) k
 | none=>false
def Eb(ls:List aC)(mode:Int):Nat->Nat->Bool
 | 0,_=>false
 | i+1,k=>Eb ls mode i k || fiL ls mode i k
def foL(ls:List aC)(mode:Int)(i a b:Nat):Bool:=match ls[i]? with
 | some x=>decide (x.mode=mode) && Ew x.re (dQ (ls.take i)) a b
 | none=>false
def FT(ls:List aC)(mode:Int):Nat->Nat->Nat->Bool
 | 0,_,_=>false
 | i+1,a,b=>FT ls mode i a b || foL ls mode i a b
theorem Vb:fiL ls mode i k=true↔∃x,ls[i]?=some x/\x.mode=mode/\∃p,Fi x.re (base (ls.take i)) p/\Vz ls p=k:=by
 unfold fiL;cases hi:ls[i]? with
 | none=>simp
 | some x=>
  simp only[Bool.and_eq_true,decide_eq_true_eq,Option.some.injEq];rw[Vd x.re (base (ls.take i))];constructor
  .rintro ⟨b,p,a,c⟩;exact⟨x,rfl,b,p,a,by rw[uT hi a.rg];exact c⟩
  .rintro ⟨y,rfl,b,p,a,c⟩;exact⟨b,p,a,by rw[<-uT hi a.rg];exact c⟩
theorem Vg{a b:Nat}:foL ls mode i a b=true↔∃x,ls[i]?=some x/\x.mode=mode/\∃p d,Fo x.re (base (ls.take i)) p d/\Vz ls p=a/\Vz ls d=b:=by
 unfold foL;cases hi:ls[i]? with
 | none=>simp
 | some x=>
  simp only[Bool.and_eq_true,decide_eq_true_eq,Option.some.injEq];rw[ad9 x.re (base (ls.take i))];constructor
  .rintro ⟨e,p,d,c,f,h⟩;exact⟨x,rfl,e,p,d,c,by rw[uT hi c.rg.1];exact f,by rw[uT hi c.rg.2];exact h⟩
  .rintro ⟨y,rfl,e,p,d,c,f,h⟩;exact⟨e,p,d,c,by rw[<-uT hi c.rg.1];exact f,by rw[<-uT hi c.rg.2];exact h⟩
theorem ad6:Eb ls mode n k=true↔∃i,i<n/\fiL ls mode i k=true:=by
 induction n with
 | zero=>simp[Eb]
 | succ n c=>
  unfold Eb;rw[Bool.or_eq_true,c];constructor
  .rintro (⟨i,b,a⟩ | h)
   .exact⟨i,o_,a⟩
   .exact⟨n,o_,h⟩
  .rintro ⟨i,b,a⟩;rcases Nat.lt_or_ge i n with h | h
   .exact .inl ⟨i,h,a⟩
   .have:i=n:=o_;subst this;exact .inr a
theorem Vf{a b:Nat}:FT ls mode n a b=true↔∃i,i<n/\foL ls mode i a b=true:=by
 induction n with
 | zero=>simp[FT]
 | succ n e=>
  unfold FT;rw[Bool.or_eq_true,e];constructor
  .rintro (⟨i,d,c⟩ | h)
   .exact⟨i,o_,c⟩
   .exact⟨n,o_,h⟩
  .rintro ⟨i,d,c⟩;rcases Nat.lt_or_ge i n with h | h
   .exact .inl ⟨i,h,c⟩
   .have:i=n:=o_;subst this;exact .inr c
theorem nW{α:Type}{l:List α}{x:α}(h:l[i]?=some x):i<l.length:=(ge_.1 h).1
def nS(ns:List aF)(F:Nat->Bool)(b:Nat->Nat->Bool)(set:Nat->Bool)(a:Bool)(c k:Nat):Bool:=
 tkN ns k c && (if a then F k else (List.range ns.length).any (fun i=>set i && b i k))
def IG(ls:List aC)(t:List Nat)(k:Nat):Bool:=t.any (fun p=>decide (Vz ls p=k))
theorem uB:IG ls t k=true↔∃p,p∈t/\Vz ls p=k:=by simp[IG]
theorem zP(h:CU ls q):p∈jQ q.1 mode↔∃i x,ls[i]?=some x/\x.mode=mode/\Fi x.re (base (ls.take i)) p:=by
 rw[Cq];constructor
 .rintro ⟨y,l,f,e⟩;obtain⟨i,c⟩:=gf_ l;have a:i<ls.length:=by rw[<-h.n];exact (ge_.1 c).1
  obtain⟨j,b,d,-⟩:=h.get i _ (gg_ a);rw[c]at b;cases b;exact⟨i,_,gg_ a,f,(d p).1 e⟩
 .rintro ⟨i,x,c,f,e⟩;obtain⟨j,b,d,-⟩:=h.get i x c;exact⟨x.lp j,mg_ b,f,(d p).2 e⟩
theorem Um(h:CU ls q)(f:zi ls ns)(set:Nat->Bool)(j:Nat->Nat->Bool)(c:Nat):nS ns (Eb ls mode ls.length) j set true c=IG ls (taking q.2 (jQ q.1 mode) c):=by
 funext k;rw[Bool.eq_iff_iff,uB];unfold nS;rw[Bool.and_eq_true,if_pos rfl,ad6];constructor
 .rintro ⟨l,i,_,e⟩;rw[Vb]at e;obtain⟨x,a,d,p,b,rfl⟩:=e;refine⟨p,(lV ..).2 ⟨(zP h).2 ⟨i,x,a,d,b⟩,(Ki h a b.rg c).2 ((JM f a b.rg c).1 l)⟩,rfl⟩
 .rintro ⟨p,e,rfl⟩;rw[lV,zP h]at e;obtain⟨⟨i,x,a,d,b⟩,l⟩:=e;exact⟨(JM f a b.rg c).2 ((Ki h a b.rg c).1 l),i,nW a,Vb.2 ⟨x,a,d,p,b,rfl⟩⟩
theorem afa(h:CU ls q)(s:zi ls ns)(C:∀p∈t,OnM ls mode p)(F:Nat->Bool)(c:Nat):nS ns F (FT ls mode ls.length) (IG ls t) false c=IG ls (taking q.2 (jq q.2 t) c):=by
 funext k;rw[Bool.eq_iff_iff,uB];unfold nS;rw[Bool.and_eq_true,if_neg i_,List.any_eq_true];constructor
 .rintro ⟨E,a,_,A⟩;rw[Bool.and_eq_true,uB,Vf]at A;obtain⟨⟨p,f,rfl⟩,i,_,b⟩:=A;rw[Vg]at b;obtain⟨x,d,H,G,z,b,e,rfl⟩:=b;obtain⟨j,y,l,r,u⟩:=C p f;have D:=VB d b.rg.1 l u e;subst D;exact⟨z,(lV ..).2 ⟨(tT ..).2 ⟨G,f,(h.fo _ _).2 ⟨i,x,d,b⟩⟩,(Ki h d b.rg.2 c).2 ((JM s d b.rg.2 c).1 E)⟩,rfl⟩
 .rintro ⟨z,f,rfl⟩;rw[lV,tT]at f;obtain⟨⟨p,f,b⟩,a⟩:=f;rw[h.fo]at b;obtain⟨i,x,d,b⟩:=b;obtain⟨j,y,l,r,u⟩:=C p f;have e:=uF l d u b.rg.1;subst e;rw[d]at l;cases l;refine⟨(JM s d b.rg.2 c).2 ((Ki h d b.rg.2 c).1 a),Vz ls p,by rw[List.mem_range,s.len];exact ab7 d b.rg.1,?_⟩;rw[Bool.and_eq_true,uB,Vf];exact⟨⟨p,f,rfl⟩,j,nW d,Vg.2 ⟨x,d,r,p,z,b,rfl,rfl⟩⟩
def Ie(ls:List aC)(mode:Int)(t:List Nat):Prop:=Ni t/\∀p∈t,OnM ls mode p
theorem Ie.nil:Ie ls mode []:=⟨List.Pairwise.nil,fun p a=>by simp at a⟩
theorem Ie.taking{t:List Nat}(h:Ie ls mode t)(ps:List aJ)(c:Nat):Ie ls mode (taking ps t c):=⟨FK _ h.1,fun p a=>h.2 p (List.mem_filter.1 a).1⟩
theorem aaX(h:CU ls q):Ie ls mode (jQ q.1 mode):=by refine⟨(yM mode h.pts).1,fun p d=>?_⟩;obtain⟨i,x,b,c,a⟩:=(zP h).1 d;exact⟨i,x,b,c,a.rg⟩
theorem Xd(h:CU ls q)(r:Ie ls mode t):Ie ls mode (jq q.2 t):=by
 refine⟨(sV h.ok t).1,fun p b=>?_⟩;rw[tT]at b;obtain⟨s,b,a⟩:=b;rw[h.fo]at a;obtain⟨i,x,c,a⟩:=a;obtain⟨j,y,d,f,l⟩:=r.2 s b;have e:=uF d c l a.rg.1;subst e;rw[c]at d;cases d;exact⟨j,_,c,f,a.rg.2⟩
theorem adT:∀{a b:List Nat},Ni a->Ni b->(∀x,x∈a↔x∈b)->a=b:=by
 intro a;induction a with
 | nil=>
  intro b _ _ h;cases b with
  | nil=>rfl
  | cons y b=>exact absurd ((h y).2 (ms_ ..)) i_
 | cons x a j=>
  intro b c d h;cases b with
  | nil=>exact absurd ((h x).1 (ms_ ..)) i_
  | cons y b=>
   unfold Ni at c d;rw[List.pairwise_cons]at c d;have l:x=y:=by
    rcases mm_.1 ((h x).1 (ms_ ..)) with e | e
    .exact e
    .rcases mm_.1 ((h y).2 (ms_ ..)) with e' | e'
     .exact e'.symm
     .have:=d.1 x e;have:=c.1 y e';omega
   subst l;rw[j c.2 d.2 (fun z=>?_)];constructor
   .intro f;rcases mm_.1 ((h z).1 (mc_ _ f)) with e | e
    .have:=c.1 z f;omega
    .exact e
   .intro f;rcases mm_.1 ((h z).2 (mc_ _ f)) with e | e
    .have:=d.1 z f;omega
    .exact e
theorem Vx{j:List Nat}(h:Ie ls mode t)(c:Ie ls mode j)(e:∀k,k<dQ ls->IG ls t k=IG ls j k):t=j:=by
 refine adT h.1 c.1 (fun p=>⟨fun b=>?_,fun b=>?_⟩)
 .have:=e _ (h.2 p b).lt;rw[uB.2 ⟨p,b,rfl⟩]at this;obtain⟨f,a,d⟩:=uB.1 this.symm;rw[<-(c.2 f a).inj (h.2 p b) d];exact a
 .have:=e _ (c.2 p b).lt;rw[uB.2 ⟨p,b,rfl⟩]at this;obtain⟨f,a,d⟩:=uB.1 this;rw[<-(h.2 f a).inj (c.2 p b) d];exact a
theorem UX{a:List Nat}(h:Ie ls mode t)(b:Ie ls mode a):Wj (dQ ls) (IG ls t) (IG ls a)=true↔t=a:=by unfold Wj;rw[decide_eq_true_eq];exact⟨Vx h b,fun e=>by subst e;exact fun _ _=>rfl⟩
theorem U8(h:Ie ls mode t):sZ (IG ls t) (dQ ls)=0↔t=[]:=by
 rw[Jp];constructor
 .intro e;exact Vx h Ie.nil (fun k a=>by rw[e k a];rfl)
 .rintro rfl;exact fun _ _=>rfl
theorem aeY(h:Ie ls mode t):∀(T:List (List Nat)) (k:Nat),(∀u∈T,Ie ls mode u)->(IL (dQ ls) (IG ls t) (T.map (IG ls)) k<0↔t∉T):=by
 intro T;induction T with
 | nil=>intro k _;simp[IL]
 | cons u T c=>
  intro k b;rw[List.map_cons];unfold IL;by_cases e:u=t
  .rw [if_pos ((UX (b u (ms_ ..)) h).2 e)];subst e;simp
  .rw [if_neg (fun a=>e ((UX (b u (ms_ ..)) h).1 a)),c _ (fun v a=>b v (mc_ _ a))];rw[mm_,not_or];exact⟨fun h=>⟨fun a=>e a.symm,h⟩,fun h=>h.2⟩
def qN(ns:List aF)(c d:Nat):Bool:=ns.all (fun x=>decide (x.kind≠1) || decide (x.inn c=x.inn d))
def AU(ns:List aF)(a:List Nat)(c:Nat):Bool:=a.any (fun d=>qN ns c d)
def nZ(ns:List aF):Nat->List Nat
 | 0=>[]
 | c+1=>if AU ns (nZ ns c) c=true then nZ ns c else nZ ns c++[c]
theorem uf(c:Nat):nZ ns (c+1)=if AU ns (nZ ns c) c=true then nZ ns c else nZ ns c++[c]:=rfl
theorem acr{c d:Nat}(h:qN ns c d=true)(k:Nat):tkN ns k c=tkN ns k d:=by
 unfold tkN;cases hk:ns[k]? with
 | none=>rfl
 | some x=>
  unfold qN at h;rw[List.all_eq_true]at h;have:=h x (mg_ hk);simp only[Bool.or_eq_true,decide_eq_true_eq]at this;rcases this with e | e
  .simp [e]
  .simp [e]
theorem Qj(h:CU ls q)(f:zi ls ns)(l:Ie ls mode t){c d:Nat}(e:qN ns c d=true):taking q.2 t c=taking q.2 t d:=by refine List.filter_congr (fun p j=>?_);obtain⟨i,x,a,_,b⟩:=l.2 p j;rw[Bool.eq_iff_iff,Ki h a b,Ki h a b,<-JM f a b,<-JM f a b,acr e]
def qL(L:List (List Nat))(t:List Nat):List (List Nat):=if t∈L then L else L++[t]
theorem Cv(h:t∈L):qL L t=L:=by unfold qL;rw[if_pos h]
theorem XZ{u:List Nat}(h:u∈L):u∈qL L t:=by
 unfold qL;split
 .exact h
 .exact List.mem_append_left _ h
theorem Tw(L:List (List Nat))(t:List Nat):t∈qL L t:=by
 unfold qL;split
 .assumption
 .simp
theorem aaR(g:Nat->List Nat)(l:List Nat):∀(L:List (List Nat)) (u:List Nat),u∈L->u∈l.foldl (fun L b=>qL L (g b)) L:=by
 induction l with
 | nil=>intro L u h;exact h
 | cons b l a=>intro L u h;exact a _ _ (XZ h)
theorem aaQ(g:Nat->List Nat)(l:List Nat):∀(L:List (List Nat)) (b:Nat),b∈l->g b∈l.foldl (fun L b=>qL L (g b)) L:=by
 induction l with
 | nil=>intro L b h;simp at h
 | cons a l c=>
  intro L b h;rw[List.foldl_cons];rcases mm_.1 h with rfl | h
  .exact aaR g l _ _ (Tw _ _)
  .exact c _ _ h
theorem WY(g:Nat->List Nat)(f:∀c d,qN ns c d=true->g c=g d)(L:List (List Nat)):∀n,(List.range n).foldl (fun L b=>qL L (g b)) L=(nZ ns n).foldl (fun L b=>qL L (g b)) L:=by
 intro n;induction n with
 | zero=>rfl
 | succ n j=>
  rw[List.range_succ,List.foldl_append,j,uf];split
  .rename_i h;unfold AU at h;rw[List.any_eq_true]at h;obtain⟨d,a,e⟩:=h;show qL _ (g n)=_;rw[f _ _ e];exact Cv (aaQ g _ _ _ a)
  .rw [List.foldl_append]
def qG(ss:List aN):List (List Nat):=ss.map (fun s=>s.places)
theorem yu(ss:List aN):(qG ss).length=ss.length:=by simp[qG]
theorem OL(t:List Nat)(ss:List aN):iV t ss<ss.length↔t∈qG ss:=by
 induction ss with
 | nil=>simp[iV,qG]
 | cons s r b=>
  unfold iV;by_cases e:s.places=t
  .rw [if_pos e];simp[qG,e]
  .rw [if_neg e];simp only[lc_,Nat.add_lt_add_iff_right,b];show _↔t∈s.places::qG r;rw[mm_];exact⟨.inr,fun h=>h.elim (fun a=>absurd a.symm e) id⟩
theorem Yq(ss:List aN)(t:List Nat):qG (iB ss t)=qL (qG ss) t:=by
 unfold iB qL;by_cases h:iV t ss<ss.length
 .rw [if_pos h,if_pos ((OL t ss).1 h)]
 .rw [if_neg h,if_neg (fun k=>h ((OL t ss).2 k))];simp[qG]
theorem Yp(ss:List aN)(a b n:Nat):qG (jG ss a b n)=qG ss:=by
 unfold qG jG;apply List.ext_getElem?;intro i;rw[gm_,gm_,List.getElem?_modify];cases ss[i]? with
 | none=>rfl
 | some x=>simp only[Option.map_some];split <;> rfl
theorem Yn(ps:List aJ)(a:List Nat)(fr:Nat)(l:List Nat):∀ss:List aN,qG (l.foldl (oN ps a fr) ss)=l.foldl (fun L b=>qL L (taking ps a b)) (qG ss):=by
 induction l with
 | nil=>intro ss;rfl
 | cons b l c=>intro ss;rw[List.foldl_cons,c,List.foldl_cons];unfold oN;rw[Yp,Yq]
theorem Yo(ps:List aJ)(a:List Nat)(fr:Nat)(ss:List aN)(k:Nat):qG (nJ ps a fr ss k)=(List.range k).foldl (fun L b=>qL L (taking ps a b)) (qG ss):=Yn ps a fr _ ss
def rH(n:Nat)(S:List (Nat->Bool))(s:Nat->Bool):List (Nat->Bool):=if sZ s n=0 then S else if IL n s S.tail 1<0 then S++[s] else S
def Ei(S:List (Nat->Bool))(k:Nat):Nat->Bool:=S.getD k (fun _=>false)
def abK(ns:List aF)(F:Nat->Bool)(b:Nat->Nat->Bool)(S:List (Nat->Bool))(k:Nat)(a:List Nat):List (Nat->Bool):=a.foldl (fun R c=>rH ns.length R (nS ns F b (Ei S k) (decide (k=0)) c)) S
def uQ(ns:List aF)(F:Nat->Bool)(a:Nat->Nat->Bool):Nat->Nat->List (Nat->Bool)->List (Nat->Bool)
 | 0,_,S=>S
 | f+1,k,S=>if k<S.length/\S.length<=41 then uQ ns F a f (k+1) (abK ns F a S k (nZ ns 256)) else S
structure NF(ls:List aC)(mode:Int)(L:List (List Nat))(S:List (Nat->Bool)):Prop where
 hd:∃T,L=[]::[]::T
 gd:∀t∈L,Ie ls mode t
 eq:S=(L.drop 1).map (IG ls)
theorem NF.anQ{S:List (Nat->Bool)}(h:NF ls mode L S)(d:Ie ls mode t):NF ls mode (qL L t) (rH (dQ ls) S (IG ls t)):=by
 obtain⟨⟨T,rfl⟩,c,rfl⟩:=h;simp only[List.drop_succ_cons,List.drop_zero,List.map_cons]at *;have f:∀u∈T,Ie ls mode u:=fun u a=>c u (by simp[a]);unfold rH;by_cases e:t=[]
 .rw [if_pos ((U8 d).2 e),Cv (by simp[e])];exact⟨⟨T,rfl⟩,c,rfl⟩
 .rw [if_neg (fun a=>e ((U8 d).1 a))];have b:(IL (dQ ls) (IG ls t) (IG ls []::List.map (IG ls) T).tail 1<0)↔t∉T:=aeY d T 1 f;by_cases m:t∈T
  .rw [if_neg (fun a=>b.1 a m),Cv (by simp[m])];exact⟨⟨T,rfl⟩,c,rfl⟩
  .rw [if_pos (b.2 m)];unfold qL;rw[if_neg (by simp[e,m])];refine⟨⟨T++[t],rfl⟩,fun u a=>?_,i_⟩;rcases ma_.1 a with k | k
   .exact c u k
   .simp at k;subst k;exact d
theorem NF.fold(g:Nat->List Nat)(a:∀c,Ie ls mode (g c))(l:List Nat):∀{L:List (List Nat)} {S:List (Nat->Bool)},NF ls mode L S->NF ls mode (l.foldl (fun L b=>qL L (g b)) L) (l.foldl (fun R c=>rH (dQ ls) R (IG ls (g c))) S):=by
 induction l with
 | nil=>intro L S h;exact h
 | cons c l d=>intro L S h;exact d (h.anQ (a c))
theorem NF.row{S:List (Nat->Bool)}(h:NF ls mode L S)(a:L[k+1]?=some t):Ei S k=IG ls t:=by unfold Ei;rw[h.eq,gd_,gm_,List.getElem?_drop,Nat.add_comm,a];rfl
theorem NF.lead(h:CU ls q)(f:zi ls ns){ss:List aN}{S:List (Nat->Bool)}(l:NF ls mode (qG ss) S)(k:Nat)(u:k+1<ss.length)(a:List Nat)(j:Ie ls mode a)(s:∀t,(qG ss)[k+1]?=some t->∀c,nS ns (Eb ls mode ls.length) (FT ls mode ls.length) (IG ls t) (decide (k=0)) c=IG ls (taking q.2 a c)) :
  NF ls mode (qG (nJ q.2 a (k+1) ss 256)) (abK ns (Eb ls mode ls.length) (FT ls mode ls.length) S k (nZ ns 256)):=by
 obtain⟨t,r⟩:∃t,(qG ss)[k+1]?=some t:=⟨_,gg_ (by rw[yu];exact u)⟩;rw[Yo,WY (ns:=ns) (fun b=>taking q.2 a b) (fun c d e=>Qj h f j e)];unfold abK;rw[l.row r,f.len];simp only[s t r];exact l.fold (fun c=>taking q.2 a c) (fun c=>j.taking _ c) _
theorem WU(h:CU ls q)(d:zi ls ns):∀(f k:Nat) (ss:List aN) (S:List (Nat->Bool)),NF ls mode (qG ss) S->NF ls mode (qG (qy q.2 f (k+2) ss)) (uQ ns (Eb ls mode ls.length) (FT ls mode ls.length) f (k+1) S):=by
 intro f;induction f with
 | zero=>intro k ss S a;exact a
 | succ f l=>
  intro k ss S a;have r:ss.length=S.length+1:=by obtain⟨T,b⟩:=a.hd;rw[<-yu,a.eq,b];simp
  unfold qy uQ;by_cases c:k+2<ss.length/\ss.length<=42
  .rw [if_pos c,if_pos o_];have j:qM ss (k+2)∈qG ss/\(qG ss)[k+2]?=some (qM ss (k+2)):=by
    have:ss[k+2]?=some (ss[k+2]'c.1):=gg_ c.1;have e:(qG ss)[k+2]?=some (qM ss (k+2)):=by unfold qG qM;rw[gm_,this];rfl
    exact⟨mg_ e,e⟩
   have b:=a.gd _ j.1;refine l (k+1) _ _ (NF.lead h d a (k+1) c.1 _ (Xd h b) (fun t e c=>?_));rw[j.2]at e;cases e;rw[(i_:decide (k+1=0)=false)];exact afa h d b.2 _ c
  .rw [if_neg c,if_neg o_];exact a
def xg(ls:List aC)(ns:List aF)(mode:Int):List (Nat->Bool):=uQ ns (Eb ls mode ls.length) (FT ls mode ls.length) 44 0 [fun _=>false]
theorem acH:NF ls mode (qG Qw) [fun _=>false]:=by
 refine⟨⟨[],rfl⟩,fun t a=>?_,rfl⟩;have:t=[]:=by simpa [qG,Qw]using a
 subst this;exact .nil
theorem Jw(h:CU ls q)(a:zi ls ns):NF ls mode (qG (qz q.1 q.2 mode)) (xg ls ns mode):=by unfold qz xg uQ;rw[if_pos i_];refine WU h a 43 0 _ _ (NF.lead h a acH 0 (by simp[Qw]) _ (aaX h) (fun t b c=>?_));exact Um h a _ _ c
theorem aaP(h:CU ls q)(c:zi ls ns):(qz q.1 q.2 mode).length=(xg ls ns mode).length+1:=by have a:=Jw (mode:=mode) h c;obtain⟨T,b⟩:=a.hd;rw[<-yu,a.eq,b];simp
end
end Pu
namespace Pu
structure AD(ls:List aC)(D:DR):Prop where
 net:zi ls D.ns
 n:D.ls.length=ls.length
 get:∀(k:Nat) (x:aC),ls[k]?=some x->D.ls[k]?=some (⟨x.mode,x.emit,x.act,x.md,((dQ (ls.take k)+x.re.size-1:Nat):Int)⟩:Kn)
 modes:(ls=[]/\D.modes=0)\/D.modes=mH (dx ls).1
 down:(D.down=-1/\zq Fy ls)\/∃i:Nat,D.down=i/\nN Fy ls i
theorem sU(ls:List aC)(x:aC):dx (ls++[x])=C9 (dx ls) x:=by simp[dx]
theorem AD.add{ls:List aC}{D:DR}(h:AD ls D)(x:aC)(F:Np x):AD (ls++[x]) (KC D x):=by
 have d:∀{k:Nat},k<=ls.length->(ls++[x]).take k=ls.take k:=fun r=>List.take_append_of_le_length r;have bk:dQ ((ls++[x]).take ls.length)=dQ ls:=by rw[d dF,List.take_length]
 refine⟨⟨fun i y C=>?_,?_⟩,by simp[KC,h.n],fun k y r=>?_,?_,?_⟩
 .rcases ug C with ⟨b,a⟩ | ⟨rfl,rfl⟩
  .rw [d o_];intro j z f;have:=h.net.at' i y a j z f;show (D.ns++_)[_]?=_;rw[al_ (nW this)];exact this
  .rw [bk];intro j z f;show (D.ns++nodes y.re D.ns.length)[_]?=_;rw[h.net.len,ar_ (by rw[h.net.len];omega),h.net.len,(o_:dQ ls+j-dQ ls=j)];exact f
 .show (D.ns++nodes x.re D.ns.length).length=_;rw[la_,bT,h.net.len,wQ];simp[dQ]
 .rcases ug r with ⟨b,a⟩ | ⟨rfl,rfl⟩
  .rw [d o_];have:=h.get k y a;show (D.ls++_)[_]?=_;rw[al_ (nW this)];exact this
  .rw [bk];show (D.ls++_)[_]?=_;rw[ar_ (by rw[h.n];exact dF),h.n,Nat.sub_self,<-h.net.len];rfl
 .refine .inr ?_;rw[sU];show Iw D.modes x=_;have e:mH (C9 (dx ls) x).1=yV ((dx ls).1.foldl yV 0) (x.lp (part x.re (dx ls).2).1)+1:=by unfold mH C9;rw[List.foldl_append];rfl
  rw[e];have s:∀m:Int,∀y:aD,y.mode=x.mode->y.md=x.md->D.modes=0/\m=0\/D.modes=m+1->Iw D.modes x=yV m y+1:=by
   intro m y u A E;unfold Np at F;unfold Iw RS yV;rw[u,A];rcases E with ⟨a,b⟩ | a
   .rw [a,b];split <;> split <;> split <;> (try split) <;> (try split) <;> omega
   .rw [a];split <;> split <;> split <;> (try split) <;> (try split) <;> omega
  refine s _ _ rfl rfl ?_;rcases h.modes with ⟨a,b⟩ | b
  .subst a;exact .inl ⟨b,rfl⟩
  .exact .inr b
 .show (dX _ _ _=_/\_)\/∃i,dX _ _ _=_/\_;rw[h.n];rcases h.down with ⟨a,b⟩ | ⟨i,a,b⟩
  .cases e:x.down with
   | false=>
    refine .inl ⟨by rw[zh];exact a,fun y c=>?_⟩;rcases ma_.1 c with k | k
    .exact b y k
    .simp at k;subst k;exact e
   | true=>refine .inr ⟨ls.length,by unfold dX;rw[if_pos ⟨rfl,by rw[a];decide⟩],⟨x,i_,e⟩,fun j y l c=>?_⟩;rw[al_ l]at c;exact b y (mg_ c)
  .obtain⟨⟨y,c,s⟩,u⟩:=b;have A:=nW c;refine .inr ⟨i,by unfold dX;rw[if_neg (by rw[a];omega)];exact a,⟨y,by rw[al_ A];exact c,s⟩,fun j z l f=>?_⟩;rw[al_ o_]at f;exact u j z l f
theorem agA:AD [] (⟨[],[],0,-1⟩:DR):=⟨⟨fun i x h=>by simp at h,rfl⟩,rfl,fun k x h=>by simp at h,.inl ⟨rfl,rfl⟩,.inl ⟨rfl,fun x h=>by simp at h⟩⟩
theorem adQ(r:List aC):∀(ls:List aC) (D:DR),(∀x∈r,Np x)->AD ls D->AD (ls++r) (r.foldl KC D):=by
 induction r with
 | nil=>intro ls D _ h;simpa using h
 | cons x r c=>intro ls D a h;have:=c _ _ (fun y b=>a y (mc_ _ b)) (h.add x (a x (ms_ ..)));simpa using this
theorem Am(ls:List aC)(h:∀x∈ls,Np x):AD ls (fQ ls):=by simpa [fQ]using adQ ls [] _ h agA
end Pu
namespace Pu
theorem uk.base{s:Y_}{i:Nat}{ls a:List aC}(h:uk s i ls a):Pu.base ls<=i->Pu.base a<=s.size:=by
 induction h with
 | done b=>intro c;rw[rD,Fg];have:=b.le;omega
 | more b _ _ _ d=>intro c;refine d ?_;rw[rD,Fg];have:=b.le;omega
theorem uk.KQ{s:Y_}{a:List aC}(h:uk s 0 [] a):Pu.base a<=s.size:=h.base dF
end Pu
theorem ack{ps:List Pu.aJ}(h:DV B W v ps)(d:B'<=B):DV B' W v ps:=by obtain⟨e,a,b,c⟩:=h;exact⟨e,dH a d,b,c⟩
theorem acP(w:W_):dh (w.alloc (c_ #[I_ 0,n_,n_] 122)) w.heap.size 122 [I_ 0,n_,n_]:=hn_ _ _
theorem JW(s:Y_)(w:W_):Calls prog 48 #[.string s] w (aiK s w):=by
 have b:=bL (acP w);have a:Hid (B_ w (w.alloc (c_ #[I_ 0,n_,n_] 122))):=(Br_ w.heap.size w).alloc dF _;go_in;go_wp2_with fail;generalize w.alloc (c_ #[I_ 0,n_,n_] 122)=W0 at *;refine (IW s W0).mono ?_;rintro e I ⟨v,en,no,rfl,R,S⟩;have H:=bL (bO b.o R (bP b.o));have B1:=bL (ja a.o R);have szz:=a.o.size;clear b a;by_cases he:en=0
 .subst he;have hOK:s.size<=300/\∃b,uk s 0 [] b/\zq Fy b/\zq MW b/\∃A F D C G E,v=.agg #[I_ (mH (dx b).1),.slice A F D,.slice C G E]/\no=0/\Lm W0.heap.size I (.slice A F D) (dx b).1/\DV W0.heap.size I (.slice C G E) (dx b).2:=by
   rcases S with ⟨_,_,e,_⟩ | ⟨_,k,_,_,e,_⟩ | ⟨Y,b,f,h⟩
   .cases e
   .cases e
   .rcases h with ⟨i,_,_,e,_⟩ | ⟨_,i,_,_,e,_⟩ | ⟨y,d,A,F,D,C,G,E,c,_,a,lm,r⟩
    .cases e
    .cases e
    .exact⟨Y,b,f,y,d,A,F,D,C,G,E,c,a,lm,r⟩
  obtain⟨Y,b,f,N,O,A,F,D,C,G,E,rfl,rfl,lm,r⟩:=hOK;have Ao:=f.Ao;have J:=Gv Ao.1;rw[J.1];have c:=jw b;have zT:(dx b).2.length<=1000:=by rw[c.len];exact lt_ (f.KQ) o_
  have ajS:(dx b).1.length<=1000:=by rw[c.n];omega
  have HD:=bL N;have HE:=bL O;have ZK:=bL f;have POK:=bL c.ok;have PTS:Hid (∀x∈(dx b).1,nO (dx b).2.length x.pt):=by have:=c.pts;rw[<-c.len]at this;exact this
  have a:=(Br_ I.heap.size I).alloc dF (c_ #[I_ (Pu.aV b:Nat),.slice A F D,.slice C G E] 122);have l:=a.alloc i_ (c_ #[] 131);have nml:=J.2;have K:Hid (RI w w.heap.size I.heap.size b A F D C G E 0 (s_ (I.heap.size+1) 0 0) ((I.alloc (c_ #[I_ (Pu.aV b:Nat),.slice A F D,.slice C G E] 122)).alloc (c_ #[] 131))):=by have on:=tV (I.alloc (c_ #[I_ (Pu.aV b:Nat),.slice A F D,.slice C G E] 122)) 131 1;rw[wa_]at on;have T:=B1.o.size;exact⟨ja B1.o l,bO H.o l (bP H.o),cO (hn_ _ _) _,(lm.mono szz).below l,(ack r szz).below l,⟨[],dH on o_,rfl,fun j u z Q=>by simp at Q⟩,fun j hj=>o_,dF⟩
  clear R S a l lm r f N O Ao J H B1 c;go_wp2_with fail;generalize hW2:(I.alloc (c_ #[I_ (Pu.aV b:Nat),.slice A F D,.slice C G E] 122)).alloc (c_ #[] 131)=W2 at *;generalize hgB:I.heap.size=gB at *;go_loopg [9,10,11,12] (Pu.aV b) (fun gk a c _ _ j=>∃(m:Nat) (f:V_),m<=Pu.aV b/\gk=Pu.aV b-m/\a=f/\c=I_ m/\RI w w.heap.size gB b A F D C G E m f j);exact⟨0,_,zl_ _,rfl,rfl,rfl,K.o⟩;clear K;obtain⟨m,f,ml,rfl,rfl,rfl,a⟩:=hrel;have r:=bL a;have b0:=bQ 0 a.b rfl;have b1:=bQ 1 a.b rfl;have b2:=bQ 2 a.b rfl;obtain⟨T,c,j,l⟩:=a.fd;obtain⟨av,cv,rfl,_,_⟩:=eO c;have FO:=bL c;have U:=bL l;have J:T.length=m:=by rw[j];simp[mh]
  have vlb:T.length<=4:=o_;have VL:=bL J;clear J;clear a c j l;by_cases hlt:m<Pu.aV b
  .have d1:=oL m (Pu.aV b:Int);have wi:=kZ m;go_wp2_with fail;refine (aaN w.heap.size _ (m:Int) A C F D G E (dx b).1 (dx b).2 wr r.o.lm r.o.pl POK.o zT ajS PTS.o).mono ?_;clear b0 b1 b2;rintro e Z ⟨l,(⟨FY,vs3,rfl,N⟩ | ⟨ajG,rfl⟩)⟩
   .have J:=bL (r.o.below l);have FO3:=bL (bW FO.o l dF);have SET:=bL (N.mono r.o.be.size);obtain⟨a3,c3,rfl⟩:=N.form;have V:Hid (∀(j:Nat) (u:V_) (z:List Pu.aN),T[j]?=some u->(mh b m)[j]?=some z->rC w.heap.size Z u z/\∃a n c,u=.slice a n c):=fun j u z y d=>⟨(U.o j u z y d).1.below l,(U.o j u z y d).2⟩;clear l N r FO U;have K:=(Br_ Z.heap.size Z).alloc dF (c_ #[.slice a3 (qz (dx b).1 (dx b).2 (m:Int)).length c3] 131);have Q:=bL (J.o.below K);have O:=bL (bW FO3.o K dF);have aiN:=bL (SET.o.below K);have X:Hid (∀(j:Nat) (u:V_) (z:List Pu.aN),T[j]?=some u->(mh b m)[j]?=some z->rC w.heap.size (Z.alloc (c_ #[.slice a3 (qz (dx b).1 (dx b).2 (m:Int)).length c3] 131)) u z/\∃a n c,u=.slice a n c):=fun j u z y d=>⟨(V.o j u z y d).1.below K,(V.o j u z y d).2⟩;have BN:Hid (dh (Z.alloc (c_ #[.slice a3 (qz (dx b).1 (dx b).2 (m:Int)).length c3] 131)) Z.heap.size 131 [.slice a3 (qz (dx b).1 (dx b).2 (m:Int)).length c3]):=hn_ _ _;have sz4:=Q.o.be.size;clear K J FO3 SET V;generalize K:(qz (dx b).1 (dx b).2 (m:Int)).length=V at *;go_wp2_with (at_builtin;go_must (refine CR rfl (.tmp 41) (.tmp 43) rfl w.heap.size _ T rfl O.o Z.heap.size (.slice a3 V c3) rfl BN.o rfl o_ sz4 ?_);intro v5 w5 J a);have c:Kt 131 _ w5:=Kt.row O.o a;have I5:Hid (RI w w.heap.size gB b A F D C G E (m+1) v5 w5):=by
     refine⟨Q.o.be.grown a sz4 (fun j h=>(ol_ O.o j h).1),c.block Q.o.r d_,c.block Q.o.b d_,c.lm Q.o.lm d_ d_,c.plm Q.o.pl d_ d_,⟨_,J,by simp[mh,VL.o],fun j u z y d=>?_⟩,fun j hj=>?_,Q.o.ap⟩
     .unfold mh at d;rw[List.range_succ,List.map_append]at d;rcases ug y with ⟨hl,hk⟩ | ⟨rfl,rfl⟩
      .rw [al_ (by have:=VL.o;simp;omega)]at d;exact⟨c.YR (X.o j u z hk d).1 d_ d_,(X.o j u z hk d).2⟩
      .rw [ar_ (by have:=VL.o;simp;omega)]at d;simp[VL.o]at d;subst d;exact⟨c.YR aiN.o d_ d_,_,_,_,rfl⟩
     .by_cases e:j=m
      .subst e;show (qz (dx b).1 (dx b).2 (j:Int)).length<=42;rw[K];exact FY
      .exact Q.o.ok j o_
    clear c J a Q O aiN X BN;go_roundg (Pu.aV b-(m+1));exact⟨m+1,_,hlt,rfl,rfl,by go_num,I5.o⟩;omega
   .have J:=bL (r.o.below l);have Q:Hid (uL s 13 m):=.inr (.inr ⟨Y,b,ZK.o,.inr (.inr ⟨HD.o,HE.o,.inl ⟨m,hlt,ajG,r.o.ok,rfl,rfl⟩⟩)⟩);clear l r FO U;obtain⟨V,K⟩:=ui J.o.be J.o.r J.o.ap (I_ 0) n_ n_;have O:=bL K;have z0:=bQ 0 J.o.r rfl;have z1:=bQ 1 J.o.r rfl;have z2:=bQ 2 J.o.r rfl;have f0:=bM J.o.r 0;have f1:=bM J.o.r 1;have f2:=bM J.o.r 2;clear K;go_wp2;exact br_ (by simp[results,results48,asAddr,Result.andThen,V]) rfl ⟨_,_,_,_,_,_,rfl,O.o,Q.o,fun _=>⟨rfl,rfl⟩,fun e=>(by cases e)⟩
  .have d1:=nI m (Pu.aV b:Int);have X:m=Pu.aV b:=o_;obtain⟨V,K⟩:=ui r.o.be r.o.r r.o.ap (I_ (Pu.aV b:Nat)) (.slice A F D) (.slice C G E);have O:=bL K;have c:=Kt.fB r.o.r (jg wr w.heap.size (I_ (Pu.aV b:Nat)) (.slice A F D) (.slice C G E));have l:Hid (Zj w.heap.size (kG wr w.heap.size (I_ (Pu.aV b:Nat)) (.slice A F D) (.slice C G E)) (.slice av T.length cv) (mh b (Pu.aV b))):=by
    have a:Zj w.heap.size (kG wr w.heap.size (I_ (Pu.aV b:Nat)) (.slice A F D) (.slice C G E)) (.slice av T.length cv) (mh b m):=⟨T,c.rows FO.o d_,by simp[mh,VL.o],fun j u z y d=>⟨c.YR (U.o j u z y d).1 d_ d_,(U.o j u z y d).2⟩⟩;have j:mh b m=mh b (Pu.aV b):=by rw[X]
    rw[j]at a;exact a
   have J:=bL (c.lm r.o.lm d_ d_);have N:=bL (c.plm r.o.pl d_ d_);have a:Hid (∀j,j<Pu.aV b->(gJ b j).length<=42):=by rw[<-X];exact r.o.ok
   have Q:Hid (uL s 0 0):=.inr (.inr ⟨Y,b,ZK.o,.inr (.inr ⟨HD.o,HE.o,.inr ⟨a.o,rfl,rfl⟩⟩)⟩);have z0:=bQ 0 r.o.r rfl;have z1:=bQ 1 r.o.r rfl;have z2:=bQ 2 r.o.r rfl;have f0:=bM r.o.r 0;have f1:=bM r.o.r 1;have f2:=bM r.o.r 2;clear K c FO U;go_wp2;exact br_ (by simp[results,results48,asAddr,Result.andThen,V]) rfl ⟨_,_,_,_,_,_,rfl,O.o,Q.o,fun h=>absurd rfl h,fun _=>⟨b,_,_,_,_,_,_,ZK.o,HD.o,HE.o,a.o,rfl,rfl,rfl,J.o,N.o,l.o⟩⟩
 .have C:v=zB/\uL s en no:=by
   rcases S with ⟨y,d,c,l⟩ | ⟨A,k,y,d,c,l⟩ | ⟨Y,b,f,h⟩
   .exact⟨d,.inl ⟨y,c,l⟩⟩
   .exact⟨d,.inr (.inl ⟨A,k,y,c,l⟩)⟩
   .rcases h with ⟨i,y,d,c,l⟩ | ⟨A,i,y,d,c,l⟩ | ⟨_,_,_,_,_,_,_,_,_,c,_⟩
    .exact⟨d,.inr (.inr ⟨Y,b,f,.inl ⟨i,y,c,l⟩⟩)⟩
    .exact⟨d,.inr (.inr ⟨Y,b,f,.inr (.inl ⟨A,i,y,c,l⟩)⟩)⟩
    .exact absurd c he
  obtain⟨rfl,r⟩:=C;have Q:=bL r;have D:(en != 0)=true:=by simpa using he
  have a:=(Br_ I.heap.size I).alloc dF (c_ #[I_ 0,n_,n_] 122);have j:=bL (bO H.o a (bP H.o));obtain⟨V,K⟩:=ui (gR:=w.heap.size) (ja B1.o a) j.o dF (I_ 0) n_ n_;have O:=bL K;have z0:=bQ 0 j.o rfl;have z1:=bQ 1 j.o rfl;have z2:=bQ 2 j.o rfl;have f0:=bM j.o 0;have f1:=bM j.o 1;have f2:=bM j.o 2;have HE:=bL he;clear R S r K H B1 a he;go_upto_region 2 with (fail);generalize I.alloc (c_ #[I_ 0,n_,n_] 122)=W2 at *;go_wp2;exact br_ (by simp[results,results48,asAddr,Result.andThen,V]) rfl ⟨_,_,_,_,_,_,rfl,O.o,Q.o,fun _=>⟨rfl,rfl⟩,fun e=>absurd e HE.o⟩
theorem yA(s:Y_)(i:Int)(w:W_)(d:0<=i)(z:i+1<s.size)(A:s.size<=9223372036854775807) :
  Calls prog 61 #[.string s,I_ i] w fun e w'=>e=.returned (I_ (pr s i.toNat))/\∃n,w'=w.drewN n:=by
 obtain⟨a,rfl⟩:=Int.eq_ofNat_of_zero_le d;rw[tn_];have D:=fun w=>eB s (a:Int) a rfl o_ w;have E:=fun w=>eB s ((a:Int)+1) (a+1) o_ o_ w;have u:=iM s a;have y:=iM s (a+1);have c:Hid (pr s a=bt s a+256*bt s (a+1)):=by show pr s a=_;unfold pr;omega
 rw[c.o];generalize bt s a=f at *;generalize bt s (a+1)=b at *;have C:(a:Int)<s.size:=o_;have j:=kZ a;have l:=yL (256*b);have r:=yL (f+256*b);go_in;go_wp2_with fail;go_quiet (fail);go_wp2;go_ret;exact⟨rfl,_,rfl⟩
theorem ac1(s:Y_)(h:6<=s.size):((s.extract 0 2).toList == [87,82])=decide (bt s 0=87/\bt s 1=82):=by
 have e:(s.extract 0 2).toList=s.data.toList.take 2:=by rw[ByteArray.toList_eq];simp
 rw[e];have c:6<=s.data.toList.length:=by simpa using h
 unfold bt
 match hd:s.data.toList,c with
 | a::b::r,_=>rw[Bool.eq_iff_iff];simp[<-UInt8.toNat_inj];omega
theorem Eg(s:Y_)(w:W_)(e:s.size<=9223372036854775807)(hF:¬(6<=s.size/\bt s 0=87/\bt s 1=82)) :
  C_ 37 #[.string s] w (BJ 2 s w):=by
 have b:Hid (¬(Form s/\gu (eG s))):=fun h=>hF ⟨h.1.1,h.1.2.1,h.1.2.2.1⟩;have a:=bL ((Br_ w.heap.size w).alloc dF (c_ #[n_,n_,n_] 42));by_cases d:s.size<6
 .have c:decide ((s.size:Int)<6)=true:=by simp;omega
  clear hF;go_enter func37,ntmps37;go_wp2;exact br_ (v:=.tuple #[.agg #[n_,n_,n_],I_ 2]) (by simp[results,results37,go_sem]) rfl (.inr ⟨b.o,rfl,a.o⟩)
 have c:decide ((s.size:Int)<6)=false:=by simp;omega
 have f:((s.extract 0 2).toList == [87,82])=false:=by rw[ac1 s o_];exact dn_ (fun h=>hF ⟨o_,h.1,h.2⟩)
 clear hF;go_enter func37,ntmps37;go_wp2;exact br_ (v:=.tuple #[.agg #[n_,n_,n_],I_ 2]) (by simp[results,results37,go_sem]) rfl (.inr ⟨b.o,rfl,a.o⟩)
structure xu(w W:W_)(ve vr vc:V_):Prop where
 o:dh W w.heap.size 42 [n_,n_,n_]
 own:dh W (w.heap.size+1) 42 [ve,vr,vc]
 qK:B_ w W
 sz:w.heap.size+2<=W.heap.size
theorem xu.drewN{w W:W_}{ve vr vc:V_}(h:xu w W ve vr vc)(n:Nat):xu w (W.drewN n) ve vr vc:=⟨h.o,h.own,bd_ h.qK n,by have:=h.sz;simpa using this⟩
theorem xu.alloc{w W:W_}{ve vr vc:V_}(h:xu w W ve vr vc)(o:Obj):xu w (W.alloc o) ve vr vc:=⟨cO h.o o,cO h.own o,h.qK.alloc (by have:=h.sz;omega) o,by have:=h.sz;simp;omega⟩
theorem xu.step{w W c:W_}{ve vr vc:V_}{row:Option Nat}(h:xu w W ve vr vc)(a:W.grownBy c row)(b:∀k,row=some k->w.heap.size+2<=k):xu w c ve vr vc:=by have f:=a.size;have j:=h.sz;refine⟨bR h.o a (fun e=>by have:=b _ e.symm;omega),bR h.own a (fun e=>by have:=b _ e.symm;omega),h.qK.grown a o_ (fun k d=>by have:=b k d;omega),o_⟩
theorem xu.ae5(h:xu w W ve vr vc)(u:V_):xu w (W.setCell (a_ (w.heap.size+1) 0) u) u vr vc:=
 ⟨bU h.o o_ _ _,by have:=cK h.own 0 u;simpa using this,h.qK.setCell (by show w.heap.size<=w.heap.size+1;omega) _,by have:=h.sz;rw[show (W.setCell (a_ (w.heap.size+1) 0) u).heap.size=W.heap.size from by simp[World.setCell]];exact this⟩
theorem xu.acv(h:xu w W ve vr vc)(u:V_):xu w (W.setCell (a_ (w.heap.size+1) 1) u) ve u vc:=
 ⟨bU h.o o_ _ _,by have:=cK h.own 1 u;simpa using this,h.qK.setCell (by show w.heap.size<=w.heap.size+1;omega) _,by have:=h.sz;rw[show (W.setCell (a_ (w.heap.size+1) 1) u).heap.size=W.heap.size from by simp[World.setCell]];exact this⟩
theorem xu.T9(h:xu w W ve vr vc)(u:V_):xu w (W.setCell (a_ (w.heap.size+1) 2) u) ve vr u:=
 ⟨bU h.o o_ _ _,by have:=cK h.own 2 u;simpa using this,h.qK.setCell (by show w.heap.size<=w.heap.size+1;omega) _,by have:=h.sz;rw[show (W.setCell (a_ (w.heap.size+1) 2) u).heap.size=W.heap.size from by simp[World.setCell]];exact this⟩
structure vB(B:Nat)(w W:W_)(bx ge gr gc m k n:Nat)(X:List V_):Prop where
 box:dh W bx 42 X
 ents:∃xs,dh W ge 3 xs/\xs.length=m+1
 rules:∃xs,dh W gr 48 xs/\xs.length=(k+1)*3
 code:∃xs,dh W gc 50 xs/\xs.length=(n+1)*4
 qK:Below B w W
 e0:B<=ge
 aY:B<=gr
 c0:B<=gc
theorem wI{b t c:Nat}{ys:List V_}(h:dh w g t xs)(a:dh w b c ys)(d:t≠c):g≠b:=by intro e;subst e;unfold dh at h a;rw[h]at a;simp at a;exact d a.2
theorem vB.ae5{m:Nat}{X:List V_}(h:vB B w W bx ge gr gc m k n X)(j:Nat)(u:V_):vB B w (W.setCell (a_ ge j) u) bx ge gr gc m k n X:=by obtain⟨f,be,le⟩:=h.ents;obtain⟨l,b,d⟩:=h.rules;obtain⟨e,a,c⟩:=h.code;exact⟨bU h.box (wI h.box be d_) _ _,⟨_,cK be j u,by simpa using le⟩,⟨_,bU b (wI b be d_) _ _,d⟩,⟨_,bU a (wI a be d_) _ _,c⟩,h.qK.setCell h.e0 u,h.e0,h.aY,h.c0⟩
theorem vB.acv{m:Nat}{X:List V_}(h:vB B w W bx ge gr gc m k n X)(j:Nat)(u:V_):vB B w (W.setCell (a_ gr j) u) bx ge gr gc m k n X:=by obtain⟨f,be,le⟩:=h.ents;obtain⟨l,a,d⟩:=h.rules;obtain⟨e,b,c⟩:=h.code;exact⟨bU h.box (wI h.box a d_) _ _,⟨_,bU be (wI be a d_) _ _,le⟩,⟨_,cK a j u,by simpa using d⟩,⟨_,bU b (wI b a d_) _ _,c⟩,h.qK.setCell h.aY u,h.e0,h.aY,h.c0⟩
theorem vB.T9{m:Nat}{X:List V_}(h:vB B w W bx ge gr gc m k n X)(j:Nat)(u:V_):vB B w (W.setCell (a_ gc j) u) bx ge gr gc m k n X:=by obtain⟨f,be,le⟩:=h.ents;obtain⟨l,b,d⟩:=h.rules;obtain⟨e,a,c⟩:=h.code;exact⟨bU h.box (wI h.box a d_) _ _,⟨_,bU be (wI be a d_) _ _,le⟩,⟨_,bU b (wI b a d_) _ _,d⟩,⟨_,cK a j u,by simpa using c⟩,h.qK.setCell h.c0 u,h.e0,h.aY,h.c0⟩
theorem jV{t:Nat}(h:dh w g t xs){j:Nat}(a:j<xs.length):∃u,w.cell? (a_ g j)=some u:=⟨xs[j],bN h (by simp[a])⟩
def adG(B:Nat)(w:W_)(e:Ending)(w':W_):Prop:=e=.returned (.tuple #[])/\Below B w w'
theorem NV(B ge gr gc m k n:Nat)(w:W_)(I J H:List V_)(be:dh w ge 3 I)(A:dh w gr 48 J)(z:dh w gc 50 H)(le:I.length=m+1)(G:J.length=(k+1)*3)(F:H.length=(n+1)*4)
  (D:B<=ge) (aY:B<=gr) (C:B<=gc) (E:B<=w.heap.size) (Q:m<=1000000000000000) (O:k<=1000000000000000) (R:n<=1000000000000000) :
  Calls prog 35 #[.agg #[s_ ge m (m+1),s_ gr k (k+1),s_ gc n (n+1)]] w (adG B w):=by
 have a:vB B w (w.alloc (c_ #[s_ ge m (m+1),s_ gr k (k+1),s_ gc n (n+1)] 42)) w.heap.size ge gr gc m k n [s_ ge m (m+1),s_ gr k (k+1),s_ gc n (n+1)]:=
  ⟨hn_ _ _,⟨_,cO be _,le⟩,⟨_,cO A _,G⟩,⟨_,cO z _,F⟩,(Br_ _ _).alloc E _,D,aY,C⟩
 have c:=bL a;clear a be A z le G F D aY C E;go_in;go_wp2_with fail;go_loopw [3] (fun i wr=>∃j:Nat,j<=m+1/\i=I_ j/\vB B w wr w.heap.size ge gr gc m k n [s_ ge m (m+1),s_ gr k (k+1),s_ gc n (n+1)]) (fun i _=>m+1-(intOf i).toNat);exact⟨0,zl_ _,rfl,c.o⟩;clear c;obtain⟨j,e,rfl,a⟩:=hrel;by_cases d:j<m+1
 .obtain⟨xs,b,ls⟩:=a.ents;obtain⟨u,l⟩:=jV b (j:=j) o_;have f:=bM b j;have c:=bL a;clear a b ls;go_wp2;go_roundw;case rel=>exact⟨j+1,o_,by go_num,c.o.ae5 j _⟩
  case measure=>simp[intOf];omega
 .have b:=bN (j:=1) a.box rfl;have c:=bL a;clear a;go_wp2_with fail;clear b;go_loopw [5] (fun i wr=>∃j:Nat,j<=k+1/\i=I_ j/\vB B w wr w.heap.size ge gr gc m k n [s_ ge m (m+1),s_ gr k (k+1),s_ gc n (n+1)]) (fun i _=>k+1-(intOf i).toNat);exact⟨0,zl_ _,rfl,c.o⟩;clear c d e;obtain⟨j,e,rfl,a⟩:=hrel;by_cases d:j<k+1
  .obtain⟨xs,b,ls⟩:=a.rules;obtain⟨u0,s⟩:=jV b (j:=j*3) o_;obtain⟨u1,u⟩:=jV b (j:=j*3+1) o_;obtain⟨u2,y⟩:=jV b (j:=j*3+2) o_;have f:=bM b (j*3);have l:=bM b (j*3+1);have r:=bM b (j*3+2);have c:=bL a;clear a b ls;go_wp2;go_roundw;case rel=>exact⟨j+1,o_,by go_num,((c.o.acv _ _).acv _ _).acv _ _⟩
   case measure=>simp[intOf];omega
  .have b:=bN (j:=2) a.box rfl;have c:=bL a;clear a;go_wp2_with fail;clear b;go_loopw [7] (fun i wr=>∃j:Nat,j<=n+1/\i=I_ j/\vB B w wr w.heap.size ge gr gc m k n [s_ ge m (m+1),s_ gr k (k+1),s_ gc n (n+1)]) (fun i _=>n+1-(intOf i).toNat);exact⟨0,zl_ _,rfl,c.o⟩;clear c d e;obtain⟨j,e,rfl,a⟩:=hrel;by_cases d:j<n+1
   .obtain⟨xs,b,ls⟩:=a.code;obtain⟨u0,s⟩:=jV b (j:=j*4) o_;obtain⟨u1,u⟩:=jV b (j:=j*4+1) o_;obtain⟨u2,y⟩:=jV b (j:=j*4+2) o_;obtain⟨u3,N⟩:=jV b (j:=j*4+3) o_;have f:=bM b (j*4);have l:=bM b (j*4+1);have r:=bM b (j*4+2);have K:=bM b (j*4+3);have c:=bL a;clear a b ls;go_wp2;go_roundw;case rel=>exact⟨j+1,o_,by go_num,(((c.o.T9 _ _).T9 _ _).T9 _ _).T9 _ _⟩
    case measure=>simp[intOf];omega
   .have b:=a.qK;clear a;go_wp2;go_end0;exact⟨rfl,b⟩
namespace Pu
def pk(c n:Int):Int:=(if c<0 then -(c+1) else c) % n
structure Made(k:Nat)(l:List ed)(i:Nat):Prop where
 len1:1<=l.length
 len2:l.length<=50000
 at_:i+1<=l.length
 last:aO l (l.length-1)=⟨5,0,0,0⟩
 done:∀j,j<i->qm k l.length (aO l j)/\((aO l j).op=3\/(aO l j).op=4->j<(aO l j).bH\/(aO l (aO l j).bH.toNat).op=2)
 raw:∀j,i<=j->j<l.length->(1<=(aO l j).op/\(aO l j).op<=5)/\(aO l j).a=0/\(aO l j).b=0/\(aO l j).bH=0
theorem Lc(l:List ed)(v:Nat)(y:ed)(k:Nat)(a:v<l.length):aO (l.set v y) k=if k=v then y else aO l k:=tF l v k y aS a
theorem Made.step{k:Nat}{l:List ed}{i:Nat}(h:Made k l i)(u:i+1<l.length)(y:ed)(c:y.op=(aO l i).op)(f:qm k l.length y)(s:y.op=3\/y.op=4->(i:Int)<y.bH\/(aO l y.bH.toNat).op=2):Made k (l.set i y) (i+1):=by
 have a:i<l.length:=o_;have d:∀j,(aO (l.set i y) j).op=(aO l j).op:=by
  intro j;rw[Lc _ _ _ _ a];by_cases e:j=i
  .subst e;rw[if_pos rfl,c]
  .rw [if_neg e]
 refine⟨by simpa using h.len1,by simpa using h.len2,by rw[le_];omega,?_,?_,?_⟩
 .rw [le_,Lc _ _ _ _ a,if_neg o_];exact h.last
 .intro j r;rw[d];rw[d,le_,Lc _ _ _ _ a];by_cases e:j=i
  .subst e;rw[if_pos rfl];exact⟨f,fun b=>s (by rw[c];exact b)⟩
  .rw [if_neg e];exact h.done j o_
 .intro j r b;rw[le_]at b;rw[Lc _ _ _ _ a,if_neg o_];exact h.raw j o_ b
theorem Made.skip{l:List ed}(h:Made k l i)(c:i+1<l.length)(b:(aO l i).op=2\/(aO l i).op=5):Made k l (i+1):=by
 have f:=h.raw i dF o_;refine⟨h.len1,h.len2,c,h.last,?_,fun j d a=>h.raw j o_ a⟩;intro j d;by_cases e:j=i
 .subst e;exact⟨.inr (.inl ⟨b,f.2⟩),fun a=>o_⟩
 .exact h.done j o_
theorem Made.code{l:List ed}(h:Made k l i)(A:¬i+1<l.length):uI l k/\wW l:=by
 have e:i=l.length-1:=by have:=h.at_;omega
 have b:∀j,j<l.length->qm k l.length (aO l j)/\((aO l j).op=3\/(aO l j).op=4->j<(aO l j).bH\/(aO l (aO l j).bH.toNat).op=2):=by
  intro j d;by_cases a:j=i
  .subst a;have:=h.last;rw[<-e]at this;rw[this];exact⟨.inr (.inl ⟨.inr rfl,rfl,rfl,rfl⟩),fun c=>by simp at c⟩
  .exact h.done j o_
 have r:uI l k:=⟨⟨h.len1,h.len2⟩,fun j d=>(b j d).1,by rw[h.last];exact .inr rfl⟩;refine⟨r,fun x=>if (aO l x).op=2 then 0 else l.length-x,fun j d v a=>?_⟩;have z:v<l.length:=r.tight.lt d a;have f:(aO l j).op≠2:=by intro c;unfold succ fst snd at a;have s:(l.getD j aS).op=2:=c;rw[if_neg o_,if_neg o_]at a;simp at a
 simp only[if_neg f];by_cases c:(aO l v).op=2
 .rw [if_pos c];omega
 .rw [if_neg c];have u:j<v:=by
   unfold succ fst snd at a;rw[ma_]at a;rcases a with a | a
   .split at a
    .simp at a;omega
    .simp at a
   .split at a
    .rename_i y;rw[List.mem_singleton]at a;rcases (b j d).2 y with h1 | h1
     .have s:(j:Int)<(l.getD j aS).bH:=h1;omega
     .exfalso;apply c;rw[a];exact h1
    .simp at a
  omega
end Pu
namespace Pu
theorem Ex(xs ys:List Int)(h:n<xs.length):(xs++ys).getD n 0=xs.getD n 0:=by simp only[gd_];rw[al_ h]
theorem Aw(xs ys:List Int)(a n:Nat)(b:xs.length=a):(xs++ys).getD (a+n) 0=ys.getD n 0:=by subst b;simp only[gd_];rw[ar_ o_,Nat.add_sub_cancel_left]
theorem Av{α:Type}(f:α->List Int)(c:Nat)(a:∀x,(f x).length=c)(d:α):∀(l:List α) (i j:Nat),i<l.length->j<c->(l.flatMap f).getD (c*i+j) 0=(f (l.getD i d)).getD j 0
 | x::r,0,j,_,hj=>by rw[List.flatMap_cons,Nat.mul_zero,Nat.zero_add,Ex _ _ (by rw[a];exact hj)];rfl
 | x::r,i+1,j,hi,hj=>by have b:=Av f c a d r i j (by simpa using hi) hj;rw[List.flatMap_cons,show c*(i+1)+j=c+(c*i+j) by rw[Nat.mul_succ];omega,Aw _ _ _ _ (a x),b];rfl
theorem Ga(p:lZ):rT p=(((FU p++eb p.code.length)++p.ents.flatMap eb)++p.rules.flatMap Bc)++p.code.flatMap OO:=by unfold rT bG bD bC;simp only[List.take_length]
theorem Lu(p:lZ):(rT p).length=6+2*p.ents.length+3*p.rules.length+5*p.code.length:=Hy p _ dF
theorem abn(p:lZ):(rT p).getD 0 0=87/\(rT p).getD 1 0=82/\(rT p).getD 2 0=p.ents.length/\(rT p).getD 3 0=p.rules.length/\(rT p).getD 4 0=(p.code.length:Int) % 256/\(rT p).getD 5 0=(p.code.length:Int) / 256:=by rw[Ga];simp only[FU,eb,List.cons_append,List.nil_append];exact⟨rfl,rfl,rfl,rfl,rfl,rfl⟩
theorem ahc(p:lZ):((FU p++eb p.code.length)++p.ents.flatMap eb).length=6+2*p.ents.length:=by rw[la_,vK eb 2 (fun _=>rfl)];rfl
theorem ahd(p:lZ):(((FU p++eb p.code.length)++p.ents.flatMap eb)++p.rules.flatMap Bc).length=6+2*p.ents.length+3*p.rules.length:=by rw[la_,ahc,vK Bc 3 (fun _=>rfl)]
theorem Vl(p:lZ)(a:i<p.ents.length)(j:Nat)(b:j<2):(rT p).getD (6+2*i+j) 0=(eb (aU p.ents i)).getD j 0:=by rw[Ga,Ex _ _ (by rw[ahd];omega),Ex _ _ (by rw[ahc];omega),Nat.add_assoc,Aw _ _ 6 _ rfl,Av eb 2 (fun _=>rfl) 0 _ _ _ a b];rfl
theorem Gc(p:lZ)(a:i<p.rules.length)(j:Nat)(b:j<3):(rT p).getD (6+2*p.ents.length+3*i+j) 0=(Bc (rg p.rules i)).getD j 0:=by rw[Ga,Ex _ _ (by rw[ahd];omega),Nat.add_assoc,Aw _ _ (6+2*p.ents.length) _ (ahc p),Av Bc 3 (fun _=>rfl) aY _ _ _ a b];rfl
theorem AB(p:lZ)(a:i<p.code.length)(j:Nat)(b:j<5):(rT p).getD (6+2*p.ents.length+3*p.rules.length+5*i+j) 0=(OO (aO p.code i)).getD j 0:=by rw[Ga,Nat.add_assoc,Aw _ _ (6+2*p.ents.length+3*p.rules.length) _ (ahd p),Av OO 5 (fun _=>rfl) aS _ _ _ a b];rfl
def Bytes(xs:List Int):Prop:=∀x,x∈xs->0<=x/\x<=255
theorem rZ{xs ys:List Int}(h:Bytes xs)(k:Bytes ys):Bytes (xs++ys):=fun x a=>by
 rcases ma_.1 a with h' | h'
 .exact h x h'
 .exact k x h'
theorem zI{α:Type}{f:α->List Int}{l:List α}(h:∀x,x∈l->Bytes (f x)):Bytes (l.flatMap f):=fun x b=>by obtain⟨y,c,a⟩:=List.mem_flatMap.1 b;exact h y c x a
theorem LM{α:Type}{l:List α}(d:α){x:α}(b:x∈l):∃i,i<l.length/\l.getD i d=x:=by obtain⟨i,a,e⟩:=List.getElem_of_mem b;exact⟨i,a,by rw[gd_,gg_ a];exact e⟩
theorem Xm{p:lZ}(h:gu p):Bytes (rT p):=by
 have f:=h.2.2.1.1;have e:=h.1.1;have d:=h.2.1.1;rw[Ga];refine rZ (rZ (rZ (rZ ?_ ?_) ?_) ?_) ?_
 .intro x a;simp only[FU,mm_,List.not_mem_nil,or_false]at a;rcases a with rfl | rfl | rfl | rfl <;> omega
 intro x a;rotate_left;refine zI fun y c x a=>?_;obtain⟨i,b,rfl⟩:=LM 0 c;have:=Cy h b;unfold aU at this;rotate_left
 .refine zI fun y c x a=>?_;obtain⟨i,b,rfl⟩:=LM aY c;have:=zV h b;unfold rg at this;simp only[Bc,mm_,List.not_mem_nil,or_false]at a;rcases a with rfl | rfl | rfl <;> omega
 .refine zI fun y c x a=>?_;obtain⟨i,b,rfl⟩:=LM aS c;have:=Cz h b;unfold aO at this;simp only[OO,mm_,List.not_mem_nil,or_false]at a;rcases a with rfl | rfl | rfl | rfl | rfl <;> omega
 all_goals
  simp only[eb,mm_,List.not_mem_nil,or_false]at a;rcases a with rfl | rfl <;> omega
end Pu
theorem agD{xs:List Int}(h:Pu.Bytes xs)(n:Nat):bt (strOfNums xs) n=xs.getD n 0:=by
 unfold bt;rw[strOfNums_data];simp only[gd_,gm_];cases e:xs[n]? with
 | none=>simp
 | some x=>have a:=h x (mg_ e);simp;omega
theorem Gb{p:lZ}(h:gu p):Form (strOfNums (Pu.rT p))/\eG (strOfNums (Pu.rT p))=p:=by
 have d:=agD (Xm h);have K:=h.2.2.1.1;obtain⟨D,E,F,G,H,I⟩:=abn p;have j:nE (strOfNums (Pu.rT p))=p.ents.length:=by unfold nE;rw[d,F];omega
 have l:nR (strOfNums (Pu.rT p))=p.rules.length:=by unfold nR;rw[d,G];omega
 have r:nC (strOfNums (Pu.rT p))=p.code.length:=by unfold nC pr;rw[d,d,H,I];omega
 have J:(strOfNums (Pu.rT p)).size=6+2*p.ents.length+3*p.rules.length+5*p.code.length:=by rw[strOfNums_size,Lu]
 refine⟨⟨o_,by rw[d,D],by rw[d,E],by rw[j,l,r,J]⟩,?_⟩;unfold eG;rw[j,l,r];have z:kQ (strOfNums (Pu.rT p)) 6 p.ents.length=p.ents:=by
  apply List.ext_getElem
  .simp [kQ]
  .intro i s c;simp only[kQ,List.getElem_map,List.getElem_range];unfold pr;rw[d,d];have aW:=Vl p c 0 o_;have e:=Vl p c 1 o_;rw[Nat.add_zero]at aW;have g:Pu.aU p.ents i=p.ents[i]:=by simp[Pu.aU,gd_,c]
   rw[g]at aW e;rw[aW,e];simp only[Pu.eb,List.getD_cons_zero,List.getD_cons_succ];omega
 have A:dJ (strOfNums (Pu.rT p)) (6+2*p.ents.length) p.rules.length=p.rules:=by
  apply List.ext_getElem
  .simp [dJ]
  .intro i s c;simp only[dJ,List.getElem_map,List.getElem_range];rw[d,d,d];have aW:=Gc p c 0 o_;have e:=Gc p c 1 o_;have f:=Gc p c 2 o_;rw[Nat.add_zero]at aW;have g:Pu.rg p.rules i=p.rules[i]:=by simp[Pu.rg,gd_,c]
   rw[g]at aW e f;rw[aW,e,f];rfl
 have C:lS (strOfNums (Pu.rT p)) (6+2*p.ents.length+3*p.rules.length) p.code.length=p.code:=by
  apply List.ext_getElem
  .simp [lS]
  .intro i s c;simp only[lS,List.getElem_map,List.getElem_range];unfold pr;rw[d,d,d,d,d];have aW:=AB p c 0 o_;have e:=AB p c 1 o_;have f:=AB p c 2 o_;have u:=AB p c 3 o_;have y:=AB p c 4 o_;rw[Nat.add_zero]at aW;have g:Pu.aO p.code i=p.code[i]:=by simp[Pu.aO,gd_,c]
   rw[g]at aW e f u y;rw[aW,e,f,u,Nat.add_assoc _ 3 1,y];generalize p.code[i]=x;obtain⟨o,a,b,t⟩:=x;simp only[OO,List.getD_cons_zero,List.getD_cons_succ,ed.mk.injEq,true_and];omega
 rw[z,A,C]
end Go.Proofs.YtmccnmgaoppogabGreat
