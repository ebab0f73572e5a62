import Derived.Test.YtmccnmgaoppogabGreatuKar
namespace Go.Proofs.YtmccnmgaoppogabGreat
open Pu
set_option linter.all false
open Go.Proofs.Tryz Tryz
set_option maxRecDepth 100000
set_option maxHeartbeats 8000000
open Go.RowKit
theorem Dr.get{B g i:Nat}{s:Y_}{ns:List aF}{f l:V_}{a down:Int}{W:W_}(h:Dr B g s i ns f l a down W){p:Nat}{x:aF}(c:ns[p]?=some x) :
  ∃b cap,f=s_ b ns.length cap/\W.rangeAt b (p*259) (dS x):=by
 have q:p<ns.length:=(ge_.1 c).1;obtain⟨b,cap,e,_,_⟩:=dL h.own o_;subst e;refine⟨b,cap,rfl,?_⟩;intro j u d;have k:j<259:=by have:=(ge_.1 d).1;rw[iA]at this;exact this
 have:=aeK c k;rw[d]at this;exact bV h.own this
namespace Pu
theorem ag.two{ns:List aF}{a b:aM}{m:Nat}{x:aF}(h:∀i y,(nodes a m++nodes b (m+a.size)++[x])[i]?=some y->ns[m+i]?=some y):ag ns a m/\ag ns b (m+a.size)/\ns[m+a.size+b.size]?=some x:=by refine⟨ag.left h,ag.right (bT a m) h,?_⟩;have:=h (a.size+b.size) x (by rw[ar_ (by simp[bT])];simp[bT]);rwa[<-Nat.add_assoc]at this
theorem ag.one{ns:List aF}{a:aM}{m:Nat}{x:aF}(h:∀i y,(nodes a m++[x])[i]?=some y->ns[m+i]?=some y):ag ns a m/\ns[m+a.size]?=some x:=by refine⟨fun i y b=>h i y (by rw[al_ (ge_.1 b).1];exact b),?_⟩;exact h a.size x (by rw[ar_ (by simp[bT])];simp[bT])
end Pu
def mJ(w:W_)(x:aF):W_:=(w.alloc (c_ zm.toArray 181)).setCells w.heap.size 0 (dS x)
theorem lD(w:W_)(x:aF):B_ w (mJ w x):=lh (g:=w.heap.size) dF _ 0 _ ((Br_ w.heap.size w).alloc dF _)
theorem oz(w:W_)(x:aF):dh (mJ w x) w.heap.size 181 (dS x):=by have a:dh (w.alloc (c_ zm.toArray 181)) w.heap.size 181 zm:=hn_ _ _;exact pO _ a (by rw[wR,iA])
theorem WM(B g i:Nat)(s:Y_)(ns:List aF)(O N:V_)(v down:Int)(L:ns.length<=100000)(I:aM):∀(m:Nat) (w:W_),Dr B g s i ns O N v down w->Pu.ag ns I m->
  C_ 54 #[p_ g,I_ ((m+I.size-1:Nat):Int)] w (mY (.bool I.iP) w):=by
 induction I with
 | pl T=>?_
 | cat a b l q=>?_
 | alt a b l q=>?_
 | star a u=>?_
 | plus a u=>?_
 | opt a u=>?_
 intro m w t e;have f:ns[m]?=some ⟨1,0,0,T⟩:=e 0 _ rfl;rotate_left;intro m w t e;obtain⟨c,j,f⟩:=Pu.ag.two e;have r:=bL (fun W d=>l m W d c);have J:=bL (fun W d=>q (m+a.size) W d j);clear l q c j;rotate_left;intro m w t e;obtain⟨c,j,f⟩:=Pu.ag.two e;have r:=bL (fun W d=>l m W d c);have J:=bL (fun W d=>q (m+a.size) W d j);clear l q c j;rotate_left;intro m w t e;obtain⟨c,f⟩:=Pu.ag.one e;have r:=bL (fun W d=>u m W d c);clear u c;rotate_left;intro m w t e;obtain⟨c,f⟩:=Pu.ag.one e;have r:=bL (fun W d=>u m W d c);clear u c;rotate_left;intro m w t e;obtain⟨c,f⟩:=Pu.ag.one e;have r:=bL (fun W d=>u m W d c);clear u c;rotate_left;all_goals
  obtain⟨y,cap,rfl,A⟩:=t.get f
 have H:m<ns.length:=(ge_.1 f).1;rw[show m+(aM.pl T).size-1=m by simp only[aM.size];omega];generalize z:m=p at *;rotate_left;have H:m+a.size+b.size<ns.length:=(ge_.1 f).1;rw[show m+(aM.cat a b).size-1=m+a.size+b.size by simp only[aM.size];omega];generalize Pu.dW=T at *;generalize m+a.size+b.size-1=j at *;generalize m+a.size-1=pa at *;generalize z:m+a.size+b.size=p at *;rotate_left;have H:m+a.size+b.size<ns.length:=(ge_.1 f).1;rw[show m+(aM.alt a b).size-1=m+a.size+b.size by simp only[aM.size];omega];generalize Pu.dW=T at *;generalize m+a.size+b.size-1=j at *;generalize m+a.size-1=pa at *;generalize z:m+a.size+b.size=p at *;rotate_left;have H:m+a.size<ns.length:=(ge_.1 f).1;rw[show m+(aM.star a).size-1=m+a.size by simp only[aM.size];omega];generalize Pu.dW=T at *;generalize m+a.size-1=pa at *;generalize z:m+a.size=p at *;rotate_left;have H:m+a.size<ns.length:=(ge_.1 f).1;rw[show m+(aM.plus a).size-1=m+a.size by simp only[aM.size];omega];generalize Pu.dW=T at *;generalize m+a.size-1=pa at *;generalize z:m+a.size=p at *;rotate_left;have H:m+a.size<ns.length:=(ge_.1 f).1;rw[show m+(aM.opt a).size-1=m+a.size by simp only[aM.size];omega];generalize Pu.dW=T at *;generalize m+a.size-1=pa at *;generalize z:m+a.size=p at *;rotate_left;all_goals
  have aS:=jJ p;have S:(p:Int)<ns.length:=o_;have x:=bQ 1 t.rb rfl;have C:=nA;have k:=bL A
 have d:=bL (lD w ⟨1,0,0,T⟩);have c:=bL (oz w ⟨1,0,0,T⟩);rotate_left;have d:=bL (lD w ⟨2,pa,j,T⟩);have c:=bL (oz w ⟨2,pa,j,T⟩);rotate_left;have d:=bL (lD w ⟨3,pa,j,T⟩);have c:=bL (oz w ⟨3,pa,j,T⟩);rotate_left;have d:=bL (lD w ⟨4,pa,0,T⟩);have c:=bL (oz w ⟨4,pa,0,T⟩);rotate_left;have d:=bL (lD w ⟨5,pa,0,T⟩);have c:=bL (oz w ⟨5,pa,0,T⟩);rotate_left;have d:=bL (lD w ⟨6,pa,0,T⟩);have c:=bL (oz w ⟨6,pa,0,T⟩);rotate_left;all_goals
  have E:=bL (t.below d.o);clear A t f e z;go_enter func54,ntmps54
 .go_upto_region 2 with (first | (refine wl_ rfl 181 (.tmp 15) rfl y (p*259) rfl _ _ k.o underlying181 rfl iH ?_) | (refine ws_ rfl 181 (.tmp 5) (.tmp 16) rfl w.heap.size 0 (dS ⟨1,0,0,T⟩).toArray rfl rfl (jC _) (nk _) (oc_ (jf _)) ?_));clear x C k;rw[show (w.alloc (c_ zm.toArray 181)).setCells w.heap.size 0 (dS ⟨1,0,0,T⟩)=mJ w ⟨1,0,0,T⟩ from rfl];generalize mJ w ⟨1,0,0,T⟩=G at *;have t:=bQ 0 c.o rfl;have z:=bQ 1 c.o rfl;have A:=bQ 2 c.o rfl;have F:=bP c.o;go_wp2;go_ret;exact⟨rfl,d.o⟩
 focus
  go_upto_region 2 with (first | (refine wl_ rfl 181 (.tmp 15) rfl y (p*259) rfl _ _ k.o underlying181 rfl iH ?_) | (refine ws_ rfl 181 (.tmp 5) (.tmp 16) rfl w.heap.size 0 (dS ⟨2,pa,j,T⟩).toArray rfl rfl (jC _) (nk _) (oc_ (jf _)) ?_));clear x C k;rw[show (w.alloc (c_ zm.toArray 181)).setCells w.heap.size 0 (dS ⟨2,pa,j,T⟩)=mJ w ⟨2,pa,j,T⟩ from rfl];generalize mJ w ⟨2,pa,j,T⟩=G at *
 rotate_left;focus
  go_upto_region 2 with (first | (refine wl_ rfl 181 (.tmp 15) rfl y (p*259) rfl _ _ k.o underlying181 rfl iH ?_) | (refine ws_ rfl 181 (.tmp 5) (.tmp 16) rfl w.heap.size 0 (dS ⟨3,pa,j,T⟩).toArray rfl rfl (jC _) (nk _) (oc_ (jf _)) ?_));clear x C k;rw[show (w.alloc (c_ zm.toArray 181)).setCells w.heap.size 0 (dS ⟨3,pa,j,T⟩)=mJ w ⟨3,pa,j,T⟩ from rfl];generalize mJ w ⟨3,pa,j,T⟩=G at *
 rotate_left
 .go_upto_region 2 with (first | (refine wl_ rfl 181 (.tmp 15) rfl y (p*259) rfl _ _ k.o underlying181 rfl iH ?_) | (refine ws_ rfl 181 (.tmp 5) (.tmp 16) rfl w.heap.size 0 (dS ⟨4,pa,0,T⟩).toArray rfl rfl (jC _) (nk _) (oc_ (jf _)) ?_));clear x C k;rw[show (w.alloc (c_ zm.toArray 181)).setCells w.heap.size 0 (dS ⟨4,pa,0,T⟩)=mJ w ⟨4,pa,0,T⟩ from rfl];generalize mJ w ⟨4,pa,0,T⟩=G at *;have t:=bQ 0 c.o rfl;have z:=bQ 1 c.o rfl;have A:=bQ 2 c.o rfl;have F:=bP c.o;clear r;go_wp2;go_ret;exact⟨rfl,d.o⟩
 .go_upto_region 2 with (first | (refine wl_ rfl 181 (.tmp 15) rfl y (p*259) rfl _ _ k.o underlying181 rfl iH ?_) | (refine ws_ rfl 181 (.tmp 5) (.tmp 16) rfl w.heap.size 0 (dS ⟨5,pa,0,T⟩).toArray rfl rfl (jC _) (nk _) (oc_ (jf _)) ?_));clear x C k;rw[show (w.alloc (c_ zm.toArray 181)).setCells w.heap.size 0 (dS ⟨5,pa,0,T⟩)=mJ w ⟨5,pa,0,T⟩ from rfl];generalize mJ w ⟨5,pa,0,T⟩=G at *;have t:=bQ 0 c.o rfl;have z:=bQ 1 c.o rfl;have A:=bQ 2 c.o rfl;have F:=bP c.o;go_wp2_with fail;refine (r.o _ E.o).mono ?_;clear r;rintro e Q ⟨rfl,f⟩;have D:=bL (d.o.trans (f.mono d.o.size));have R:Hid ((aM.plus a).iP=a.iP):=rfl;generalize a.iP=K at *;clear f t z A E d c;go_wp2;go_ret;exact⟨by rw[R.o];rfl,D.o⟩
 .go_upto_region 2 with (first | (refine wl_ rfl 181 (.tmp 15) rfl y (p*259) rfl _ _ k.o underlying181 rfl iH ?_) | (refine ws_ rfl 181 (.tmp 5) (.tmp 16) rfl w.heap.size 0 (dS ⟨6,pa,0,T⟩).toArray rfl rfl (jC _) (nk _) (oc_ (jf _)) ?_));clear x C k;rw[show (w.alloc (c_ zm.toArray 181)).setCells w.heap.size 0 (dS ⟨6,pa,0,T⟩)=mJ w ⟨6,pa,0,T⟩ from rfl];generalize mJ w ⟨6,pa,0,T⟩=G at *;have t:=bQ 0 c.o rfl;have z:=bQ 1 c.o rfl;have A:=bQ 2 c.o rfl;have F:=bP c.o;clear r;go_wp2;go_ret;exact⟨rfl,d.o⟩
 all_goals
  have t:=bQ 0 c.o rfl;have z:=bQ 1 c.o rfl;have A:=bQ 2 c.o rfl;have F:=bP c.o;go_wp2_with fail;refine (r.o _ E.o).mono ?_;clear r;rintro e Q ⟨rfl,f⟩;have r:=bQ 2 (bO c.o f F) rfl;have K:=bL (E.o.below f);have D:=bL (d.o.trans (f.mono d.o.size));clear f t z A E d c;go_wp2_with fail;refine (J.o _ K.o).mono ?_;clear J;rintro e f ⟨rfl,c⟩;have d:=bL (D.o.trans (c.mono D.o.size));clear c r K D
 have R:Hid ((aM.cat a b).iP=(a.iP && b.iP)):=rfl;rotate_left;focus have R:Hid ((aM.alt a b).iP=(a.iP || b.iP)):=rfl
 all_goals
  cases ea:a.iP with
  | true=>go_wp2;go_ret;exact⟨by rw[R.o,ea];rfl,d.o⟩
  | false=>go_wp2;go_ret;exact⟨by rw[R.o,ea];rfl,d.o⟩
structure Gk(gs:List Nat)(w w':W_):Prop where
 os:w'.os=w.os
 tape:w'.tape=w.tape
 output:w'.output=w.output
 size:w.heap.size<=w'.heap.size
 block:∀k,k<w.heap.size->k∉gs->w'.heap[k]?=w.heap[k]?
section
variable {gs:List Nat} {w w' w'':W_}
theorem Gk.refl(gs:List Nat)(w:W_):Gk gs w w:=⟨rfl,rfl,rfl,dF,fun _ _ _=>rfl⟩
theorem Gk.trans(h:Gk gs w w')(a:Gk gs w' w''):Gk gs w w'':=⟨a.os.trans h.os,a.tape.trans h.tape,a.output.trans h.output,lt_ h.size a.size,fun k b c=>(a.block k (Nat.lt_of_lt_of_le b h.size) c).trans (h.block k b c)⟩
theorem Gk.below(h:B_ w w'):Gk gs w w':=⟨h.os,h.tape,h.output,h.size,fun k a _=>h.block k a⟩
theorem Gk.grown{g:Nat}(h:w.grownBy w' (some g))(a:g∈gs):Gk gs w w':=⟨h.os,h.tape,h.output,h.size,fun k b c=>h.block k b (fun e=>by cases e;exact c a)⟩
theorem Gk.fB{g t:Nat}{xs:List V_}(h:Gk gs w w')(a:dh w g t xs)(b:g∉gs):dh w' g t xs:=by unfold dh;rw[h.block g (bP a) b];exact a
end
structure Gf(W:W_)(gg gr gf cap n:Nat)(gs:List Nat)(fo:Nat->Nat->Bool):Prop where
 b:dh W gg 217 [p_ gr,s_ gf n cap]
 own:W.ownsRow 0 153 1 (s_ gf n cap) n (nV n gs)
 len:gs.length=n
 row:∀i g,gs[i]?=some g->Bl W g n (fo i)
 nd:gs.Nodup
section
variable {W W':W_} {gg gr gf cap n:Nat} {gs:List Nat} {fo Ii:Nat->Nat->Bool}
theorem Gf.below(h:Gf W gg gr gf cap n gs fo)(a:B_ W W'):Gf W' gg gr gf cap n gs fo:=
 ⟨bO h.b a (bP h.b),bW h.own a dF,h.len,fun i g e=>bO (h.row i g e) a (bP (h.row i g e)),h.nd⟩
theorem Gf.congr(h:Gf W gg gr gf cap n gs fo)(e:∀i k,i<n->k<n->fo i k=Ii i k):Gf W gg gr gf cap n gs Ii:=
 ⟨h.b,h.own,h.len,fun i g a=>by
  have b:i<n:=by rw[<-h.len];exact (ge_.1 a).1
  have:=h.row i g a;unfold Bl at *;rw[pX (g:=fo i) (fun k c=>(e i k b c).symm)];exact this,h.nd⟩
def ae6(fo:Nat->Nat->Bool)(i k:Nat)(b:Bool):Nat->Nat->Bool:=fun a c=>if a=i/\c=k then b else fo a c
theorem Gf.set(h:Gf W gg gr gf cap n gs fo){i g:Nat}(d:gs[i]?=some g)(k:Nat)(b:Bool):Gf (W.setCell (a_ g k) (.bool b)) gg gr gf cap n gs (ae6 fo i k b)/\Gk gs W (W.setCell (a_ g k) (.bool b)):=by
 have a:=gs_ W g k (.bool b);have p:=h.row i g d;have t:g∈gs:=mg_ d;refine⟨⟨?_,dG h.own p d_ a,h.len,?_,h.nd⟩,.grown a t⟩
 .exact bR h.b a (fun e=>by cases e;exact dI h.b p d_ rfl)
 .intro j q f;by_cases e:j=i
  .subst e;rw[d]at f;cases f;have:=cK p k (.bool b);rw[Eu]at this;unfold Bl;rw[pX (g:=uW (fo j) k b)]
   .exact this
   .intro c _;unfold ae6 uW;simp
  .have ne:q≠g:=by intro l;subst l;have r:=(ge_.1 d);have s:=(ge_.1 f);exact e ((List.getElem_inj (h₀:=s.1) (h₁:=r.1) h.nd).1 (s.2.trans r.2.symm))
   have:=bR (h.row j q f) a (fun l=>ne (oi_ l));unfold Bl;rw[pX (g:=fo j)]
   .exact this
   .intro c _;unfold ae6;rw[if_neg (fun h=>e h.1)]
end
def aiE(v:V_)(gg gr gf cap n:Nat)(gs:List Nat)(fo:Nat->Nat->Bool)(w:W_)(e:Ending)(w':W_):Prop:=
 e=.returned v/\Gk gs w w'/\Gf w' gg gr gf cap n gs fo
theorem zM(gg gr gf cap n y z:Nat)(gs:List Nat)(fo:Nat->Nat->Bool)(f j:Nat->Bool)(w:W_)(h:Gf w gg gr gf cap n gs fo)(d:Bl w y n f)(l:Bl w z n j)(na:y∉gs)(nb:z∉gs)(R:n<=100000) :
  Calls prog 135 #[p_ gg,s_ y n n,s_ z n n] w (aiE (.tuple #[]) gg gr gf cap n gs (fun i k=>fo i k || (f i && j k)) w):=by
 have H:=bL h;have E:=bL d;have F:=bL l;clear h d l;have G:=bL na;have I:=bL nb;clear na nb;go_in;go_wp2_with fail;go_loopg [6,7,8] n (fun gk p _ _ g=>∃i:Nat,i<=n/\gk=n-i/\p=I_ i/\Gk gs w g/\Gf g gg gr gf cap n gs (fun a c=>fo a c || (decide (a<i) && (f a && j c))));exact⟨0,zl_ _,rfl,rfl,Gk.refl _ _,H.o.congr (fun a c _ _=>i_)⟩;obtain⟨i,L,rfl,rfl,u,p⟩:=hrel;have t:=bL u;have q:=bL p;clear u p;by_cases D:i<n
 .have J:=oL i n;have X:=kZ i;have aS:=jJ i;have T:(i:Int)<n:=o_;go_wp2_with fail;go_loopg [7,14] n (fun gk p _ g=>∃k:Nat,k<=n/\gk=n-k/\p=I_ k/\Gk gs w g/\Gf g gg gr gf cap n gs (fun a c=>fo a c || ((decide (a<i) || (decide (a=i) && decide (c<k))) && (f a && j c))));exact⟨0,zl_ _,rfl,rfl,t.o,q.o.congr (fun a c _ _=>i_)⟩;clear t q;obtain⟨k,N,rfl,rfl,u,p⟩:=hrel;have t:=bL u;have q:=bL p;by_cases C:k<n
  .have K:=oL k n;have Y:=kZ k;have U:=jJ k;have V:(k:Int)<n:=o_;have x:=bN (u.fB E.o G.o) (iy f D);have B:=bN (u.fB F.o I.o) (iy j C);obtain⟨v,s⟩:∃g,gs[i]?=some g:=⟨_,gg_ (by rw[H.o.len];exact D)⟩;have O:=bQ 1 p.b rfl;have aO:=bV p.own (fH s);have Q:=bN (p.row i v s) (iy _ C);have fr:=bM (p.row i v s) k;have b:Hid ((f i && j k)=false->Gf wr gg gr gf cap n gs (fun a c=>fo a c || ((decide (a<i) || (decide (a=i) && decide (c<k+1))) && (f a && j c)))):=fun e=>q.o.congr (fun a c _ _=>by
    by_cases d:a=i/\c=k
    .obtain⟨rfl,rfl⟩:=d;rw[e];simp
    .have:(decide (a=i) && decide (c<k))=(decide (a=i) && decide (c<k+1)):=by
      by_cases l:a=i
      .simp only[l,decide_true,Bool.true_and,decide_eq_decide];have:c≠k:=fun A=>d ⟨l,A⟩;omega
      .simp [l]
     simp only[this])
   have r:Hid ((f i && j k)=true->Gf (wr.setCell (a_ v k) (.bool true)) gg gr gf cap n gs (fun a c=>fo a c || ((decide (a<i) || (decide (a=i) && decide (c<k+1))) && (f a && j c)))/\Gk gs w (wr.setCell (a_ v k) (.bool true))):=fun e=>by
    have:=q.o.set s k true;refine⟨this.1.congr (fun a c _ _=>?_),t.o.trans this.2⟩;unfold ae6;by_cases d:a=i/\c=k
    .rw [if_pos d];obtain⟨rfl,rfl⟩:=d;rw[e];simp
    .rw [if_neg d];have:(decide (a=i) && decide (c<k))=(decide (a=i) && decide (c<k+1)):=by
      by_cases l:a=i
      .simp only[l,decide_true,Bool.true_and,decide_eq_decide];have:c≠k:=fun A=>d ⟨l,A⟩;omega
      .simp [l]
     simp only[this]
   clear u p q;generalize (fo i k || ((decide (i<i) || (decide (i=i) && decide (k<k))) && (f i && j k)))=a at *;cases e1:f i with
   | false=>
    have S:=bL (b.o (by rw[e1];rfl));clear b r;rw[e1]at x;clear e1;go_wp2;go_roundg (n-(k+1));exact⟨k+1,o_,rfl,by go_num,t.o,S.o⟩;omega
   | true=>
    cases e2:j k with
    | false=>
     have S:=bL (b.o (by rw[e1,e2];rfl));clear b r;rw[e1]at x;rw[e2]at B;clear e1 e2;go_wp2;go_roundg (n-(k+1));exact⟨k+1,o_,rfl,by go_num,t.o,S.o⟩;omega
    | true=>
     have S:=bL (r.o (by rw[e1,e2];rfl));clear b r;rw[e1]at x;rw[e2]at B;clear e1 e2;go_wp2;go_roundg (n-(k+1));exact⟨k+1,o_,rfl,by go_num,S.o.2,S.o.1⟩;omega
  .have K:=nI k n;have S:Hid (Gf wr gg gr gf cap n gs (fun a c=>fo a c || (decide (a<i+1) && (f a && j c)))):=p.congr (fun a c _ g=>by
    have d:decide (c<k)=true:=dt_ o_;have l:(decide (a<i) || decide (a=i))=decide (a<i+1):=by rw[<-Bool.decide_or,decide_eq_decide];omega
    rw[d,Bool.and_true,l])
   clear u p q;go_wp2;go_roundg (n-(i+1));exact⟨i+1,o_,rfl,by go_num,t.o,S.o⟩;omega
 .have J:=nI i n;have S:Hid (Gf wr gg gr gf cap n gs (fun a c=>fo a c || (f a && j c))):=q.o.congr (fun a c g _=>by
   have d:decide (a<i)=true:=dt_ o_;rw[d,Bool.true_and])
  clear q;go_wp2;go_end0;exact⟨rfl,t.o,S.o⟩
end Go.Proofs.YtmccnmgaoppogabGreat
