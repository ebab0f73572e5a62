import Derived.Test.YtmccnmgaoppogabGreatuHH
import Derived.Test.YtmccnmgaoppogabGreatuKaz
namespace Go.Proofs.YtmccnmgaoppogabGreat
open Pu
set_option linter.all false
open Go.Proofs.Tryz Tryz
set_option maxRecDepth 100000
set_option maxHeartbeats 8000000
open Go.RowKit
variable {ns:List aF} {c n:Nat}
namespace Pu
theorem Qb(ns:List aF):∀c,∀d∈nZ ns c,d<c:=by
 intro c;induction c with
 | zero=>intro d a;simp[nZ]at a
 | succ c b=>
  intro d a;unfold nZ at a;split at a
  .have:=b d a;omega
  .rcases ma_.1 a with k | k
   .have:=b d k;omega
   .simp at k;omega
theorem JY(ns:List aF):∀c,(nZ ns c).length<=c:=by
 intro c;induction c with
 | zero=>simp[nZ]
 | succ c a=>
  rw[uf];split
  .omega
  .simp;omega
theorem Yc{R:List Nat}{k:Nat}(h:AU ns (R.take k) c=true):AU ns R c=true:=by unfold AU at *;rw[List.any_eq_true]at *;obtain⟨d,a,e⟩:=h;exact⟨d,List.mem_of_mem_take a,e⟩
theorem Yb{R:List Nat}{k d:Nat}(a:R[k]?=some d)(h:AU ns (R.take k) c=false):AU ns (R.take (k+1)) c=qN ns c d:=by rw[List.take_add_one,a];unfold AU at *;rw[List.any_append,h];simp
theorem TW{d:Nat}(h:qN (ns.take n) c d=false):qN ns c d=false:=by unfold qN at *;rw[List.all_eq_false]at *;obtain⟨x,a,e⟩:=h;exact⟨x,List.mem_of_mem_take a,e⟩
theorem TV{d:Nat}{x:aF}(a:ns[n]?=some x)(h:qN (ns.take n) c d=true):qN (ns.take (n+1)) c d=(decide (x.kind≠1) || decide (x.inn c=x.inn d)):=by rw[List.take_add_one,a];unfold qN at *;rw[List.all_append,h];simp
end Pu
theorem Yf{w:W_}{base e size:Nat}{v:V_}{xs:List V_}(h:w.ownsRow base e size v n xs)(m:Nat):(w.drewN m).ownsRow base e size v n xs:=h
theorem Dr.cell{B g i:Nat}{s:Y_}{ns:List aF}{f:Option Addr}{m d:Nat}{t:V_}{a down:Int}{W:W_}(h:Dr B g s i ns (.slice f m d) t a down W){p:Nat}{x:aF}(r:ns[p]?=some x) :
  ∃b,f=some (a_ b 0)/\m=ns.length/\W.cell? (a_ b (p*259))=some (I_ x.kind)/\∀c,c<256->W.cell? (a_ b (p*259+3+c))=some (.bool (x.inn c)):=by
 obtain⟨b,j,e,l⟩:=h.get r;cases e;have k:W.cell? (a_ b (p*259+0))=some (I_ x.kind):=l 0 (I_ x.kind) (by show (_::_)[0]?=_;rw[List.getElem?_cons_zero]);rw[Nat.add_zero]at k;refine⟨b,rfl,rfl,k,fun c q=>?_⟩;have:=l (3+c) (.bool (x.inn c)) (by
  unfold dS;rw[(o_:3+c=c+1+1+1),cs_,cs_,cs_];exact iq _ q)
 rwa[<-Nat.add_assoc]at this
theorem NZ(B g i:Nat)(s:Y_)(ns:List aF)(vn vl:V_)(u down:Int)(U:ns.length<=100000)(w:W_)(p:Dr B g s i ns vn vl u down w) :
  Calls prog 108 #[p_ g] w (UL (nZ ns 256) w):=by
 obtain⟨an,cn,rfl,_,_⟩:=eO p.own;have S:=bL p;clear p;go_in;go_wp2_with fail;go_loopg [3,4,5,6,7,8] 256 (fun gk d a _ _ _ _ b=>∃(c:Nat),c<=256/\gk=256-c/\a=I_ c/\B_ w b/\b.ownsRow w.heap.size 3 1 d (nZ ns c).length (bZ (nZ ns c)));exact⟨0,zl_ _,rfl,rfl,Br_ _ _,iR _ _ _ _⟩;obtain⟨c,cl,rfl,rfl,f,b⟩:=hrel;have A:=bL f;have C:=bL b;obtain⟨I,L,rfl,_,_⟩:=eO b;have rl:=JY ns c;have E:=bL (Qb ns c);clear f b;generalize a:nZ ns c=R at *;have q:=bL a;clear a;by_cases hc:c<256
 .have W:decide ((c:Int)<256)=true:=dt_ o_;have wc:=kZ c;have ic0:=jJ c;have ic1:(c:Int)<256:=o_;go_wp2_with fail;go_loopg [5,6,7,8] R.length (fun gk a O _ _ b=>∃(k:Nat),k<=R.length/\gk=R.length-k/\O=I_ k/\a=.bool (AU ns (R.take k) c)/\B_ w b/\b.ownsRow w.heap.size 3 1 (.slice I R.length L) R.length (bZ R));exact⟨0,zl_ _,rfl,rfl,rfl,A.o,C.o⟩;clear A C;obtain⟨k,kl,rfl,rfl,rfl,f,b⟩:=hrel;have a:=bL f;have j:=bL b;clear f b;by_cases hk:k<R.length
  .have X:=oL k R.length;have wk:=kZ k;have OM:=jJ k;have IC:(k:Int)<R.length:=o_;cases l:AU ns (R.take k) c with
   | true=>
    have t:=Yc l;clear l;have y:Hid (nZ ns (c+1)=R):=by show _=_;rw[uf,q.o,if_pos t]
    clear t q;go_wp2;go_roundg (256-(c+1));exact⟨c+1,o_,rfl,by go_num,a.o,by rw[y.o];exact j.o⟩;omega
   | false=>
    obtain⟨d,p⟩:=rG R k hk;have F:d<256:=by have:=E.o d (mg_ p);omega
    have id0:=jJ d;have id1:(d:Int)<256:=o_;have H:=bL (Yb p l);have T:=bL p;clear l p;go_wp2_with fail;go_loopg [7,8] ns.length (fun gk f e b=>∃(n:Nat),n<=ns.length/\gk=ns.length-n/\e=I_ n/\f=.bool (qN (ns.take n) c d)/\B_ w b/\b.ownsRow w.heap.size 3 1 (.slice I R.length L) R.length (bZ R));exact⟨0,zl_ _,rfl,rfl,rfl,a.o,j.o⟩;clear a j;obtain⟨n,nl,rfl,rfl,rfl,f,b⟩:=hrel;have a:=bL f;have j:=bL b;have v:=S.o.below f;have c1:=bQ 1 v.rb rfl;by_cases G:n<ns.length
    .have Y:=oL n ns.length;cases es:qN (ns.take n) c d with
     | false=>
      have D:Hid (AU ns (R.take (k+1)) c=false):=H.o.trans (TW es);clear es f b v;go_wp2;go_roundg (R.length-(k+1));exact⟨k+1,o_,rfl,by go_num,by rw[D.o],a.o,j.o⟩;omega
     | true=>
      obtain⟨x,e⟩:=rG ns n G;have z:=bL (TV e es);obtain⟨gn,Z,_,y0,r⟩:=v.cell e;subst Z;have y1:=r c hc;have y2:=r d F;obtain⟨gr,V,er,_,_⟩:=dL b o_;cases er;have rk:=bV b (iQ T.o);have in0:=jJ n;have in1:(n:Int)<ns.length:=o_;have wn:=kZ n;clear es f b v r e;have N:decide ((x.kind:Int)=1)=decide (x.kind=1):=by rw[decide_eq_decide];omega
      by_cases l:x.kind=1;have r:(x.kind:Int)=1:=o_;rw[r]at y0;have e:Hid (qN (ns.take (n+1)) c d=decide (x.inn c=x.inn d)):=z.o.trans (by rw[dn_ (by simp[l]),Bool.false_or]);clear z l r N;generalize x.inn c=J at *;generalize x.inn d=K at *;rotate_left;have r:decide ((x.kind:Int)=1)=false:=dn_ o_;have e:Hid (qN (ns.take (n+1)) c d=true):=z.o.trans (by rw[dt_ (by simpa using l),Bool.true_or]);have ek2:((x.kind:Int) == 1)=false:=by simp;omega
      have ek3:((x.kind:Int) != 1)=true:=by simp;omega
      have ek4:decide ((x.kind:Int)≠1)=true:=dt_ o_;clear z l N;generalize (x.kind:Int)=O at *;rotate_left;all_goals
       go_wp2_with fail;go_quiet (fail);have dn:=bL (bd_ a.o nq);have on:=bL (Yf j.o nq)
      .have Q:Hid ((J == K)=qN (ns.take (n+1)) c d):=by rw[e.o];cases J <;> cases K <;> rfl
       clear e;go_wp2;go_roundg (ns.length-(n+1));exact⟨n+1,o_,rfl,by go_num,by rw[<-Q.o],dn.o,on.o⟩;omega
      .go_wp2;go_roundg (ns.length-(n+1));exact⟨n+1,o_,rfl,by go_num,by rw[e.o],dn.o,on.o⟩;omega
    .have Y:=nI n ns.length;have e:n=ns.length:=o_;subst e;have D:Hid (AU ns (R.take (k+1)) c=qN (ns.take ns.length) c d):=by rw[List.take_length];exact H.o
     clear f b v;go_wp2;go_roundg (R.length-(k+1));exact⟨k+1,o_,rfl,by go_num,by rw[D.o],a.o,j.o⟩;omega
  .have X:=nI k R.length;have e:k=R.length:=o_;subst e;rw[List.take_length];cases t:AU ns R c with
   | true=>
    skip
    have y:Hid (nZ ns (c+1)=R):=by show _=_;rw[uf,q.o,if_pos t]
    clear t q;go_wp2;go_roundg (256-(c+1));exact⟨c+1,o_,rfl,by go_num,a.o,by rw[y.o];exact j.o⟩;omega
   | false=>
    skip
    have y:Hid (nZ ns (c+1)=R++[c]):=by show _=_;rw[uf,q.o,if_neg (by rw[t];simp)]
    clear t q;have sz:=a.o.size;go_wp2_with (at_builtin;go_must (refine gI rfl (.tmp 73) (.tmp 75) rfl w.heap.size _ R [c] rfl (oa_ j.o _) (some (a_ wr.heap.size 0)) 1 1 rfl ⟨rfl,.inr ⟨_,rfl,fun d f b=>jc (xs:=[I_ c]) rfl d _ (by cases d with | zero=>simp at b;subst b;rfl | succ d=>simp at b)⟩⟩ (by simp;omega) (by simp;omega) ?_);intro x v f d);have b:B_ w v:=(a.o.alloc sz _).grown d (by simp;omega) (fun r h=>(ol_ j.o r h).1);have r:=bL f;clear d f;go_roundg (256-(c+1));exact⟨c+1,o_,rfl,by go_num,b,by rw[y.o];exact r.o⟩;omega
 .have W:decide ((c:Int)<256)=false:=dn_ o_;have e:c=256:=o_;subst e;go_wp2;go_ret;exact⟨_,rfl,A.o,by rw[q.o];exact C.o⟩
theorem kN.BP{j:Bool}{f g d a:Nat->Bool}{p q l b:Nat}{r:List Nat}{fo Ii:Nat->Nat->Bool}{w w':W_}{e:Ending}(h:kN j f g p q l b n r fo w e w')(s:∀k,f k=d k)(t:∀k,g k=a k)(u:∀i k,fo i k=Ii i k):kN j d a p q l b n r Ii w e w':=by rw[show d=f from funext (fun k=>(s k).symm),show a=g from funext (fun k=>(t k).symm),show Ii=fo from funext (fun i=>funext (fun k=>(u i k).symm))];exact h
theorem Ta(B g i:Nat)(s:Y_)(ns:List aF)(F E:V_)(j down:Int)(G:ns.length<=100000)(q v l:Nat)(y:List Nat)(D:aM):∀(m:Nat) (fo:Nat->Nat->Bool) (w:W_),Dr B g s i ns F E j down w->Gf w q g v l ns.length y fo->Pu.ag ns D m->
  C_ 106 #[p_ q,I_ ((m+D.size-1:Nat):Int)] w (kN D.iP (Pu.Iy D m) (Pu.Nb D m) q g v l ns.length y (fun a c=>fo a c || Pu.Ew D m a c) w):=by
 induction D with
 | pl T=>intro m fo w r t p;have u:ns[m]?=some ⟨1,0,0,T⟩:=p 0 _ rfl;rw[show m+(aM.pl T).size-1=m by simp only[aM.size];omega];refine (XO B g i s ns F E j down G q v l y fo T m w r t u).mono (fun e I h=>?_);exact kN.BP h (fun k=>rfl) (fun k=>rfl) (fun a c=>by simp[Pu.Ew])
 | cat a b A C=>intro m fo w r t p;obtain⟨z,J,u⟩:=Pu.ag.two p;rw[show m+(aM.cat a b).size-1=m+a.size+b.size by simp only[aM.size];omega];refine (Tc B g i s ns F E j down G q v l y fo _ _ _ _ _ _ _ _ _ _ _ _ w r t u (fun W d f=>A m fo W d f z) (fun W d f=>C (m+a.size) _ W d f J)).mono (fun e I h=>?_);exact kN.BP h (fun k=>rfl) (fun k=>rfl) (fun a c=>by simp[Pu.Ew,Bool.or_assoc])
 | alt a b A C=>intro m fo w r t p;obtain⟨z,J,u⟩:=Pu.ag.two p;rw[show m+(aM.alt a b).size-1=m+a.size+b.size by simp only[aM.size];omega];refine (S9 B g i s ns F E j down G q v l y fo _ _ _ _ _ _ _ _ _ _ _ _ w r t u (fun W d f=>A m fo W d f z) (fun W d f=>C (m+a.size) _ W d f J)).mono (fun e I h=>?_);exact kN.BP h (fun k=>rfl) (fun k=>rfl) (fun a c=>by simp[Pu.Ew,Bool.or_assoc])
 | star a H=>?_
 | plus a H=>?_
 | opt a H=>?_
 all_goals
  intro m fo w r t p;obtain⟨z,u⟩:=Pu.ag.one p
 .rw [show m+(aM.star a).size-1=m+a.size by simp only[aM.size];omega];refine (Cn B g i s ns F E j down G q v l y fo _ _ _ _ _ _ _ _ w r t u (.inl rfl) (fun W d f=>H m fo W d f z)).mono (fun e I h=>?_);have:=kN.BP h (fun k=>rfl) (fun k=>rfl) (Ii:=fun x c=>fo x c || Pu.Ew (.star a) m x c) (fun a c=>by simp[Pu.Ew,Bool.or_assoc]);rwa[show (a.iP || decide ((4:Nat)≠5))=(aM.star a).iP by simp[aM.iP]]at this
 .rw [show m+(aM.plus a).size-1=m+a.size by simp only[aM.size];omega];refine (Cn B g i s ns F E j down G q v l y fo _ _ _ _ _ _ _ _ w r t u (.inr (.inl rfl)) (fun W d f=>H m fo W d f z)).mono (fun e I h=>?_);have:=kN.BP h (fun k=>rfl) (fun k=>rfl) (Ii:=fun x c=>fo x c || Pu.Ew (.plus a) m x c) (fun a c=>by simp[Pu.Ew,Bool.or_assoc]);rwa[show (a.iP || decide ((5:Nat)≠5))=(aM.plus a).iP by simp[aM.iP]]at this
 .rw [show m+(aM.opt a).size-1=m+a.size by simp only[aM.size];omega];refine (Cn B g i s ns F E j down G q v l y fo _ _ _ _ _ _ _ _ w r t u (.inr (.inr rfl)) (fun W d f=>H m fo W d f z)).mono (fun e I h=>?_);have:=kN.BP h (fun k=>rfl) (fun k=>rfl) (Ii:=fun x c=>fo x c || Pu.Ew (.opt a) m x c) (fun a c=>by simp[Pu.Ew]);rwa[show (a.iP || decide ((6:Nat)≠5))=(aM.opt a).iP by simp[aM.iP]]at this
theorem Bl.congr{W:W_}{g:Nat}{f a:Nat->Bool}(h:Bl W g n f)(e:∀k,k<n->f k=a k):Bl W g n a:=by unfold Bl at *;rw[<-pX e];exact h
theorem Bl.set{W:W_}{g:Nat}{f:Nat->Bool}(h:Bl W g n f)(k:Nat)(b:Bool):Bl (W.setCell (a_ g k) (.bool b)) g n (uW f k b):=by have:=cK h k (.bool b);rw[Eu]at this;exact this
theorem Ji{B g k:Nat}{w W:W_}{v:V_}(h:Below B w W)(a:B<=g)(b:B<=W.heap.size):Below B w (W.setCell (a_ g k) v):=
 h.grown (gs_ W g k v) b (fun d e=>by cases e;exact a)
theorem acG(B g aS:Nat)(s:Y_)(ns:List aF)(vn vl:V_)(A down:Int)(hn:ns.length<=100000)(Z gf N X Y:Nat)(gs:List Nat)(fo:Nat->Nat->Bool)(F S:Nat->Bool)(bg:Bool)(c:Nat)(hc:c<256)(w:W_)(K:Dr B g s aS ns vn vl A down w)(O:Gf w Z g gf N ns.length gs fo)(hF:Bl w X ns.length F)(hS:Bl w Y ns.length S) :
  Calls prog 109 #[p_ Z,dE X ns.length,dE Y ns.length,.bool bg,I_ c] w (UH ns.length (nS ns F fo S bg c) w):=by
 have a:=qX ns.length hn;obtain⟨an,cn,rfl,_,_⟩:=eO K.own;have HD:=bL K;have U:=bL O;have T:=bL hF;have V:=bL hS;have b:Hid (B_ w (w.alloc (c_ (rY ns.length (fun _=>false)).toArray 4))):=kM _;have f:Hid (Bl (w.alloc (c_ (rY ns.length (fun _=>false)).toArray 4)) w.heap.size ns.length (fun _=>false)):=hn_ _ _;have J:=bQ 0 O.b rfl;have L:=bQ 1 K.rb rfl;clear K O hF hS;go_in;go_wp2_with fail;clear J L a;go_loopg [12,13] ns.length (fun gk a _ d=>∃(k:Nat),k<=ns.length/\gk=ns.length-k/\a=I_ k/\B_ w d/\Bl d w.heap.size ns.length (fun j=>decide (j<k) && nS ns F fo S bg c j));exact⟨0,zl_ _,rfl,rfl,b.o,f.o.congr (fun k _=>i_)⟩;clear b f;obtain⟨k,kl,rfl,rfl,b,r⟩:=hrel;have q:=bL b;have l:=bL r;by_cases I:k<ns.length
 .have d1:=oL k ns.length;have wk:=kZ k;have OM:=jJ k;have IC:(k:Int)<ns.length:=o_;have ic0:=jJ c;have ic1:(c:Int)<256:=o_;obtain⟨x,i⟩:=rG ns k I;have d:=HD.o.below b;have p:=U.o.below b;have J:=bQ 0 p.b rfl;have L:=bQ 1 d.rb rfl;obtain⟨gn,e1,_,y0,t⟩:=d.cell i;subst e1;have Q:=t c hc;have D:Hid (Pu.tkN ns k c=(decide (x.kind=1) && x.inn c)):=by show _=_;unfold Pu.tkN;rw[i]
  have f:Hid (Pu.tkN ns k c=false->Bl wr w.heap.size ns.length (fun j=>decide (j<k+1) && nS ns F fo S bg c j)):=fun e=>l.o.congr (fun j _=>by
   by_cases a:j=k
   .subst a;simp[nS,e]
   .rw [show decide (j<k+1)=decide (j<k) by rw[decide_eq_decide];omega])
  clear t i d r;by_cases G:x.kind=1
  .have z:(x.kind:Int)=1:=o_;rw[z]at y0;cases ei:x.inn c with
   | false=>
    have R:=bL (f.o (by rw[D.o,ei,Bool.and_false]));rw[ei]at Q;clear f D G z ei l b p;go_wp2;go_roundg (ns.length-(k+1));exact⟨k+1,o_,rfl,by go_num,q.o,R.o⟩;omega
   | true=>
    have C:Hid (Pu.tkN ns k c=true):=by rw[D.o,ei,dt_ G];rfl
    rw[ei]at Q;clear f D G z ei;have E:=bN l.o (iy _ I);have fr:=bM l.o k;have sz:=q.o.size;have d:=bN (bO T.o b (bP T.o)) (iy F I);cases bg with
    | true=>
     have y:Hid (Bl (wr.setCell (a_ w.heap.size k) (.bool (F k))) w.heap.size ns.length (fun j=>decide (j<k+1) && nS ns F fo S true c j)):=(l.o.set k (F k)).congr (fun j _=>by
      unfold uW;by_cases a:j=k
      .subst a;simp[nS,C.o]
      .rw [if_neg a,show decide (j<k+1)=decide (j<k) by rw[decide_eq_decide];omega])
     have u:=bL (Ji (k:=k) (v:=.bool (F k)) b dF sz);clear C l b p;generalize F k=fk at *;go_wp2;go_roundg (ns.length-(k+1));exact⟨k+1,o_,rfl,by go_num,u.o,y.o⟩;omega
    | false=>
     clear b p d E fr;go_wp2_with fail;go_loopg [13] ns.length (fun gk t d=>∃(i:Nat),i<=ns.length/\gk=ns.length-i/\t=I_ i/\B_ w d/\Bl d w.heap.size ns.length (fun j=>(decide (j<k) && nS ns F fo S false c j) || (decide (j=k) && (List.range i).any (fun a=>S a && fo a k))));exact⟨0,zl_ _,rfl,rfl,q.o,l.o.congr (fun j _=>i_)⟩;clear q l J L y0 Q;obtain⟨i,il,rfl,rfl,b,r⟩:=hrel;have q:=bL b;have l:=bL r;have sz:=q.o.size;have t:Hid (∀i,((decide (k<k) && nS ns F fo S false c k) || (decide (k=k) && (List.range i).any (fun a=>S a && fo a k)))=(List.range i).any (fun a=>S a && fo a k)):=fun i=>by simp
     have E:=bN r (iy _ I);rw[t.o i]at E;have fr:=bM r k;have d:Hid ((List.range i).any (fun a=>S a && fo a k)=(List.range ns.length).any (fun a=>S a && fo a k)->Bl wr w.heap.size ns.length (fun j=>decide (j<k+1) && nS ns F fo S false c j)):=fun e=>l.o.congr (fun j _=>by
      by_cases a:j=k
      .subst a;rw[e];simp[nS,C.o]
      .rw [show decide (j<k+1)=decide (j<k) by rw[decide_eq_decide];omega,dn_ a,Bool.false_and,Bool.or_false])
     by_cases hi:i<ns.length
     .have d2:=oL i ns.length;cases ea:(List.range i).any (fun a=>S a && fo a k) with
      | true=>
       have R:=bL (d.o (by
        rw[ea];symm;rw[List.any_eq_true]at *;obtain⟨a,j,H⟩:=ea;exact⟨a,List.mem_range.2 (by have:=List.mem_range.1 j;omega),H⟩))
       rw[ea]at E;clear d t l r b ea C;go_wp2;go_roundg (ns.length-(k+1));exact⟨k+1,o_,rfl,by go_num,q.o,R.o⟩;omega
      | false=>
       rw[ea]at E;have p:=U.o.below b;have W:=bN (bO V.o b (bP V.o)) (iy S hi);obtain⟨gi,H⟩:∃g,gs[i]?=some g:=⟨_,gg_ (by rw[p.len];exact hi)⟩;have J:=bQ 1 p.b rfl;have aO:=bV p.own (fH H);have cr:=bN (p.row i gi H) (iy _ I);have wi:=kZ i;have ii0:=jJ i;have ii1:(i:Int)<ns.length:=o_;have y:Hid (Bl (wr.setCell (a_ w.heap.size k) (.bool (S i && fo i k))) w.heap.size ns.length (fun j=>(decide (j<k) && nS ns F fo S false c j) || (decide (j=k) && (List.range (i+1)).any (fun a=>S a && fo a k)))):=(l.o.set k (S i && fo i k)).congr (fun j _=>by
        unfold uW;by_cases a:j=k
        .subst a;rw[if_pos rfl,List.range_succ,List.any_append,ea];simp
        .rw [if_neg a];simp[a])
       have u:=bL (Ji (k:=k) (v:=.bool (S i && fo i k)) b dF sz);clear d t l q r b ea C p;cases eS:S i with
       | false=>?_
       | true=>?_
       rw[eS]at W y u;rw[Bool.false_and]at y u;rotate_left;focus
        rw[eS]at W y u;rw[Bool.true_and]at y u
       all_goals
        clear eS;go_wp2;go_roundg (ns.length-(i+1));exact⟨i+1,o_,rfl,by go_num,u.o,y.o⟩;omega
     .have d2:=nI i ns.length;have e:i=ns.length:=o_;have R:=bL (d.o (by rw[e]));clear d t l r b C E;go_wp2;go_roundg (ns.length-(k+1));exact⟨k+1,o_,rfl,by go_num,q.o,R.o⟩;omega
  .have R:=bL (f.o (by rw[D.o,dn_ G,Bool.false_and]));have d:decide ((x.kind:Int)=1)=false:=dn_ o_;have i:((x.kind:Int) == 1)=false:=by simp;omega
   have j:((x.kind:Int) != 1)=true:=by simp;omega
   have t:decide ((x.kind:Int)≠1)=true:=dt_ o_;clear f D G l b p;generalize (x.kind:Int)=a at *;go_wp2;go_roundg (ns.length-(k+1));exact⟨k+1,o_,rfl,by go_num,q.o,R.o⟩;omega
 .have d1:=nI k ns.length;have R:Hid (Bl wr w.heap.size ns.length (nS ns F fo S bg c)):=r.congr (fun j a=>by rw[dt_ o_,Bool.true_and]);clear l r b;go_wp2;go_ret;exact⟨_,rfl,q.o,dF,R.o⟩
def aiF(d L:Nat)(a b:Nat->Bool)(w:W_)(e:Ending)(w':W_):Prop:=e=.returned (.bool (Pu.dY L a b))/\w.grownBy w' (some d)/\Bl w' d L (iI a b)
theorem mD(d x L:Nat)(a b:Nat->Bool)(w:W_)(z:Bl w d L a)(k:Bl w x L b)(ne:x≠d)(F:L<=100000) :
  Calls prog 159 #[s_ d L L,s_ x L L] w (aiF d L a b w):=by
 have B:=bL z;have C:=bL k;have D:=bL ne;clear z k ne;go_in;go_wp2_with fail;go_loopg [5,6] L (fun gk r p l=>∃i:Nat,i<=L/\gk=L-i/\r=.bool ((List.range i).any (fun j=>b j && !a j))/\p=I_ i/\w.grownBy l (some d)/\Bl l d L (fun j=>a j || (decide (j<i) && b j)));exact⟨0,zl_ _,rfl,rfl,rfl,World.grownBy.refl _ _,B.o.congr (fun j _=>i_)⟩;obtain⟨i,H,rfl,rfl,rfl,s,l⟩:=hrel;have r:=bL s;have t:=bL l;by_cases A:i<L
 .have E:=oL i L;have I:=kZ i;have aS:=jJ i;have G:(i:Int)<L:=o_;have v:=bN (bR C.o s (fun e=>D.o (oi_ e))) (iy b A);have u:=bN l (iy _ A);have aP:=bM l i;have y:Hid ((a i || (decide (i<i) && b i))=a i):=by show _=_;simp
  rw[y.o]at u;have g:Hid ((List.range (i+1)).any (fun j=>b j && !a j)=((List.range i).any (fun j=>b j && !a j) || (b i && !a i))):=by show _=_;rw[List.range_succ,List.any_append];simp
  have q:Hid ((b i && !a i)=false->Bl wr d L (fun j=>a j || (decide (j<i+1) && b j))):=fun e=>t.o.congr (fun j _=>by
   by_cases p:j=i
   .subst p;cases k:b j with
    | false=>simp
    | true=>
     rw[k]at e;have:a j=true:=by simpa using e
     rw[this];rfl
   .rw [show decide (j<i+1)=decide (j<i) by rw[decide_eq_decide];omega])
  have f:Hid ((b i && !a i)=true->Bl (wr.setCell (a_ d i) (.bool true)) d L (fun j=>a j || (decide (j<i+1) && b j))/\w.grownBy (wr.setCell (a_ d i) (.bool true)) (some d)):=fun e=>⟨(t.o.set i true).congr (fun j _=>by
   unfold uW;by_cases p:j=i
   .subst p;rw[if_pos rfl];have:b j=true:=by cases k:b j <;> rw[k]at e <;> simp at e |-
    rw[this];simp
   .rw [if_neg p,show decide (j<i+1)=decide (j<i) by rw[decide_eq_decide];omega]),Lib.grownBy_setB r.o i (.bool true)⟩
  clear s l y;generalize (List.range i).any (fun j=>b j && !a j)=m at *;cases e1:b i with
  | false=>
   have R:=bL (q.o (by rw[e1];rfl));have p:Hid ((List.range (i+1)).any (fun j=>b j && !a j)=m):=by show _=_;rw[g.o,e1];simp
   rw[e1]at v;clear q f g e1;go_wp2;go_roundg (L-(i+1));exact⟨i+1,o_,rfl,by rw[p.o],by go_num,r.o,R.o⟩;omega
  | true=>
   cases e2:a i with
   | true=>
    have R:=bL (q.o (by rw[e1,e2];rfl));have p:Hid ((List.range (i+1)).any (fun j=>b j && !a j)=m):=by show _=_;rw[g.o,e1,e2];simp
    rw[e1]at v;rw[e2]at u;clear q f g e1 e2;go_wp2;go_roundg (L-(i+1));exact⟨i+1,o_,rfl,by rw[p.o],by go_num,r.o,R.o⟩;omega
   | false=>
    have R:=bL (f.o (by rw[e1,e2];rfl));have p:Hid ((List.range (i+1)).any (fun j=>b j && !a j)=true):=by show _=_;rw[g.o,e1,e2];simp
    rw[e1]at v;rw[e2]at u;clear q f g e1 e2;go_wp2;go_roundg (L-(i+1));exact⟨i+1,o_,rfl,by rw[p.o],by go_num,R.o.2,R.o.1⟩;omega
 .have E:=nI i L;have u:i=L:=o_;have R:Hid (Bl wr d L (iI a b)):=l.congr (fun j p=>by rw[dt_ (o_:j<i),Bool.true_and];rfl);have p:Hid ((List.range i).any (fun j=>b j && !a j)=Pu.dY L a b):=by rw[u];exact rfl
  clear s l t;go_wp2;go_ret;exact⟨by rw[<-p.o];rfl,r.o,R.o⟩
end Go.Proofs.YtmccnmgaoppogabGreat
