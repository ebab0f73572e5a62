import Derived.Test.YtmccnmgaoppogabGreatuKaf
import Derived.Test.YtmccnmgaoppogabGreatuKai
import Derived.Laws.BytesArg
import Derived.Test.YtmccnmgaoppogabGreatuWA
namespace Go.Proofs.YtmccnmgaoppogabGreat
open Pu
set_option linter.all false
open Go.Proofs.Tryz Tryz
set_option maxRecDepth 100000
set_option maxHeartbeats 8000000
open Go.RowKit
variable {nt:aH} {nf:aG} {W0 w:W_} {xs:List Int} {B n:Nat} {v:V_}
structure JS(B g:Nat)(s:Y_)(k:Nat)(ps:List Pu.aJ)(d:Bool)(a:aK)(w:W_)(gR gP:Nat)(W:W_):Prop where
 rd:∃vp qs,Rd B g s k ps d vp qs W
 rk:Rk B w W
 r:dh W gR 127 [.bool false,n_,n_]
 p:∃af mf cf al nl cl,dh W gP 127 [.bool a.empty,.slice af mf cf,.slice al nl cl]/\fe W (.slice af mf cf) a.first/\fe W (.slice al nl cl) a.last
 ap:gR≠gP/\w.heap.size<=gR/\w.heap.size<=gP/\B<=w.heap.size
 ok:jh ps/\nO ps.length a/\ps.length<=k
section
variable {B g:Nat} {s:Y_} {k j:Nat} {ps ps':List Pu.aJ} {d d':Bool} {a a':aK} {w:W_} {gR gP:Nat} {W W':W_} {vp:V_} {qs:List (Pu.aJ × V_)}
theorem JS.lt(h:JS B g s k ps d a w gR gP W):B<=W.heap.size:=by obtain⟨vp,qs,b⟩:=h.rd;exact b.lt
theorem JS.below(h:JS B g s k ps d a w gR gP W)(b:B_ W W'):JS B g s k ps d a w gR gP W':=by obtain⟨vp,qs,e⟩:=h.rd;obtain⟨f,q,l,i,r,p,c,t,u⟩:=h.p;exact⟨⟨vp,qs,e.below b⟩,h.rk.trans (.below e.lt b),bO h.r b (bP h.r),⟨f,q,l,i,r,p,bO c b (bP c),t.below b,u.below b⟩,h.ap,h.ok⟩
theorem JS.on(h:JS B g s k ps d a w gR gP W)(rk:Rk B W W')(t:Rd B g s j ps' d' vp qs W')(ok:jh ps'/\nO ps'.length a/\ps'.length<=j):JS B g s j ps' d' a w gR gP W':=by obtain⟨b,i,e,c,l,f,p,q,r⟩:=h.p;exact⟨⟨vp,qs,t⟩,h.rk.trans rk,rk.fB h.r d_ d_,⟨b,i,e,c,l,f,rk.fB p d_ d_,rk.jK q,rk.jK r⟩,h.ap,ok⟩
theorem JS.put(h:JS B g s k ps d a w gR gP W){c:Bool}{f i:Option Addr}{q l r p:Nat}(pm:Pm W (.agg #[.bool c,.slice f q l,.slice i r p]) a')(y:nO ps.length a'):JS B g s k ps d a' w gR gP (kG W gP (.bool c) (.slice f q l) (.slice i r p)):=by
 obtain⟨vp,qs,z⟩:=h.rd;obtain⟨_,_,_,_,_,_,t,_,_⟩:=h.p;obtain⟨_,_,_,_,_,_,u,n1,x⟩:=pm;cases u;have b:=jg W gP (.bool a'.empty) (.slice f q l) (.slice i r p);exact⟨⟨vp,qs,z.yQ t d_ d_ d_ b⟩,h.rk.fresh b h.ap.2.2.1 h.ap.2.2.2,bR h.r b (fun e=>h.ap.1 (oi_ e)),⟨f,q,l,i,r,p,jE t _ _ _,dM n1 t d_ b,dM x t d_ b⟩,h.ap,h.ok.1,y,h.ok.2.2⟩
theorem JS.fin(h:JS B g s k ps d a w gR gP W):∃c b l f e p i,dh W gP 127 [.bool c,.slice b l f,.slice e p i]/\
  (loadVar 127 (a_ gR 0)).run prog (kG W gR (.bool c) (.slice b l f) (.slice e p i))=.ok (.agg #[.bool c,.slice b l f,.slice e p i]) (kG W gR (.bool c) (.slice b l f) (.slice e p i))/\
  Pm (kG W gR (.bool c) (.slice b l f) (.slice e p i)) (.agg #[.bool c,.slice b l f,.slice e p i]) a/\Rk B w (kG W gR (.bool c) (.slice b l f) (.slice e p i))/\∃vp qs,Rd B g s k ps d vp qs (kG W gR (.bool c) (.slice b l f) (.slice e p i)):=by
 obtain⟨vp,qs,C⟩:=h.rd;obtain⟨b,l,f,e,p,i,y,z,A⟩:=h.p;obtain⟨_,_,_,_,_,_,u,x,q,t,r⟩:=Lh h.rk C h.r h.ap.2.1 h.ap.2.2.2 ⟨b,l,f,e,p,i,rfl,z,A⟩;cases u;exact⟨_,_,_,_,_,_,_,y,x,q,t,vp,qs,r⟩
theorem JS.yes{i:Nat}{t:aM}{D:Bool}{u:Bool}{r:List Pu.aJ}(h:JS B g s k (Pu.part t r).2 (u || D) (Pu.part t r).1 w gR gP W)(E:Pu.P s nt i k t D):∃c b p f e q l,dh W gP 127 [.bool c,.slice b p f,.slice e q l]/\
  (loadVar 127 (a_ gR 0)).run prog (kG W gR (.bool c) (.slice b p f) (.slice e q l))=.ok (.agg #[.bool c,.slice b p f,.slice e q l]) (kG W gR (.bool c) (.slice b p f) (.slice e q l))/\
  vz B g s i nt nf u r w (.returned (.tuple #[.agg #[.bool c,.slice b p f,.slice e q l],.bool true])) (kG W gR (.bool c) (.slice b p f) (.slice e q l)):=by
 obtain⟨c,b,p,f,e,q,l,x,y,z,A,vp,qs,C⟩:=h.fin;exact⟨c,b,p,f,e,q,l,x,y,.inl ⟨k,t,D,_,vp,qs,E,rfl,z,A,C⟩⟩
theorem JS.no{i:Nat}(t:Bool)(r:List Pu.aJ)(h:JS B g s k ps d a w gR gP W)(D:aI s nf i k)(u:r.length<=ps.length):∃c b p f e q l,dh W gP 127 [.bool c,.slice b p f,.slice e q l]/\
  (loadVar 127 (a_ gR 0)).run prog (kG W gR (.bool c) (.slice b p f) (.slice e q l))=.ok (.agg #[.bool c,.slice b p f,.slice e q l]) (kG W gR (.bool c) (.slice b p f) (.slice e q l))/\
  vz B g s i nt nf t r w (.returned (.tuple #[.agg #[.bool c,.slice b p f,.slice e q l],.bool false])) (kG W gR (.bool c) (.slice b p f) (.slice e q l)):=by
 obtain⟨c,b,p,f,e,q,l,x,y,z,A,vp,qs,C⟩:=h.fin;exact⟨c,b,p,f,e,q,l,x,y,.inr ⟨k,a,ps,d,_,vp,qs,D,rfl,z,h.ok.2.1,h.ok.1,⟨u,h.ok.2.2⟩,A,C⟩⟩
theorem JS.first{i:Nat}{K:Bool}{b:List Pu.aJ}{e:Ending}(h:vz B g s i nt nf K b W0 e W)(G:jh b)(S:b.length<=i)(Q:nt.lv=0)(N:dh W0 gR 127 [.bool false,n_,n_])(E:w.heap.size<=gR)(F:Rk B w W0)(I:B<=w.heap.size) :
  ∃c f t p l u q ok,e=.returned (.tuple #[.agg #[.bool c,.slice f t p,.slice l u q],.bool ok])/\
   ((ok=true/\∃j x D,Pu.P s nt i j x D/\JS B g s j (Pu.part x b).2 (K || D) (Pu.part x b).1 w gR W.heap.size (W.alloc (c_ #[.bool c,.slice f t p,.slice l u q] 127)))\/
    (ok=false/\∃j ps' d' a,aI s nf i j/\b.length<=ps'.length/\JS B g s j ps' d' a w gR W.heap.size (W.alloc (c_ #[.bool c,.slice f t p,.slice l u q] 127)))):=by
 rcases h with ⟨j,x,D,v,vp,qs,L,rfl,pm,rk,z⟩ | ⟨j,a,ps',d',v,vp,qs,hF,rfl,pm,R,ok,O,rk,z⟩
 .obtain⟨f,t,p,l,u,q,rfl,n1,H⟩:=pm;have r:=(Br_ W.heap.size W).alloc dF (c_ #[.bool (Pu.part x b).1.empty,.slice f t p,.slice l u q] 127);have C:=rk.fB N d_ d_;have A:=bP C;have sz:=(F.trans rk).lo.size;have J:=AX x b G;have T:=iC x b;have lv:=L.leaves;rw[Q]at lv;have y:=lt_ E (ll_ A);exact⟨_,f,t,p,l,u,q,true,rfl,.inl ⟨rfl,j,x,D,L,⟨vp,qs,z.below r⟩,(F.trans rk).trans (.below z.lt r),bO C r A,⟨f,t,p,l,u,q,hn_ _ _,n1.below r,H.below r⟩,⟨o_,E,y,I⟩,J.2,J.1,o_⟩⟩
 .obtain⟨f,t,p,l,u,q,rfl,n1,H⟩:=pm;have r:=(Br_ W.heap.size W).alloc dF (c_ #[.bool a.empty,.slice f t p,.slice l u q] 127);have C:=rk.fB N d_ d_;have A:=bP C;have y:=lt_ E (ll_ A);exact⟨_,f,t,p,l,u,q,false,rfl,.inr ⟨rfl,j,ps',d',a,hF,O.1,⟨vp,qs,z.below r⟩,(F.trans rk).trans (.below z.lt r),bO C r A,⟨f,t,p,l,u,q,hn_ _ _,n1.below r,H.below r⟩,⟨o_,E,y,I⟩,ok,R,O.2⟩⟩
end
theorem JV(s:Y_)(i:Nat)(O:EX 161 .atom .atom s i)(hi:i<=s.size)(hs:s.size<=400):EX 154 .pc .pc s i:=by
 intro B g ps d vp qs w h b hl;have BL:=h.lt;have p:Hid (dh (w.alloc (c_ #[.bool false,n_,n_] 127)) w.heap.size 127 [.bool false,n_,n_]):=hn_ _ _;have f:=bL (h.below ((Br_ w.heap.size w).alloc dF (c_ #[.bool false,n_,n_] 127)));have l:Hid (Rk B w (w.alloc (c_ #[.bool false,n_,n_] 127))):=.alloc BL _;have OK:=bL b;have O:=bL O;clear h b;go_enter func154,ntmps154;go_wp2_with fail;generalize w.alloc (c_ #[.bool false,n_,n_] 127)=W0 at *;refine (O.o B g ps d vp qs W0 f.o OK.o hl).mono ?_;intro e w1 q;obtain⟨c,af,mf,cf,al,nl,cl,ok,rfl,b⟩:=JS.first q OK.o hl rfl p.o dF l.o BL;have J:=bL b;clear b q f l p;go_wp2_with fail;generalize w1.alloc (c_ #[.bool c,.slice af mf cf,.slice al nl cl] 127)=W2 at *;generalize w1.heap.size=gP at *;have gRl:w.heap.size<=w.heap.size:=dF;generalize w.heap.size=gR at *;cases ok with
 | false=>
  rcases J.o with ⟨e,_⟩ | ⟨_,j,ps',d',a,hF,hpl,u⟩
  .cases e
  .clear J;obtain⟨G,T,R,U,S,V,Q,q,y,l⟩:=u.no (nt:=.pc) d ps (.pc hF) hpl;have r:=bL u.r;have l:=bL l;clear u;have I:=bQ 0 r.o rfl;have X:=bQ 1 r.o rfl;have Y:=bQ 2 r.o rfl;have H:=bM r.o 0;have E:=bM r.o 1;have A:=bM r.o 2;have K:=bQ 0 q rfl;have L:=bQ 1 q rfl;have N:=bQ 2 q rfl;clear q;go_loopg [6] 0 (fun _ _ p=>p=W2);case atStart=>rfl
   case round=>subst hrel;go_wp2;exact br_ (by simp[results,results154,asAddr,Result.andThen,y]) rfl l.o
 | true=>
  rcases J.o with ⟨_,j,re,D,hP,u⟩ | ⟨e,_⟩
  .have jl:j<=s.size:=hP.le hi 2 (.inl ⟨trivial,.inl rfl⟩);clear J;have x:Hid (∃k f t,k<=s.size/\s.size-j=s.size-k/\JS B g s k (Pu.part f ps).2 (d || t) (Pu.part f ps).1 w gR gP W2/\∀q b l,Pu.P s (.QU f t) k q b l->Pu.P s .pc i q b l):=⟨j,re,D,jl,rfl,u,fun q b l r=>.pc hP r⟩;clear hP u;go_loopg [6] (s.size-j) (fun gk _ p=>∃k f t,k<=s.size/\gk=s.size-k/\JS B g s k (Pu.part f ps).2 (d || t) (Pu.part f ps).1 w gR gP p/\∀q b l,Pu.P s (.QU f t) k q b l->Pu.P s .pc i q b l);exact x.o;clear x;obtain⟨k,f,t,kl,rfl,u,b⟩:=hrel;obtain⟨QW,qs1,q⟩:=u.rd;have p:=bL (mK g k s QW (d || t) wr q.rb);have l:=bL u;have z:=bL b;clear u q b;go_wp2_with fail;refine p.o.mono ?_;clear p;rintro e w2 ⟨rfl,b⟩;have x:=bL (l.o.below b);clear b l;by_cases p:Pu.dN s k=42\/Pu.dN s k=43\/Pu.dN s k=63
   .have zl:k<s.size:=Pu.fK (s:=s) (i:=k) (by rcases p with h | h | h <;> rw[h] <;> decide);have y:Hid (∃I,Pu.part I ps=Pu.repeated (Pu.part f ps).1 (Pu.dN s k) (Pu.part f ps).2/\∀q b l,Pu.P s (.QU I t) (k+1) q b l->Pu.P s .pc i q b l):=by
     rcases p with h | h | h
     .exact⟨.star f,by rw[h];rfl,fun q b l r=>z.o _ _ _ (.star h r)⟩
     .exact⟨.plus f,by rw[h];rfl,fun q b l r=>z.o _ _ _ (.plus h r)⟩
     .exact⟨.opt f,by rw[h];rfl,fun q b l r=>z.o _ _ _ (.opt h r)⟩
    obtain⟨H,F,r⟩:=x.o.rd;have G:=bQ 1 r.rb rfl;have E:=bM r.rb 1;have wi:=kZ k;have b:=gs_ w2 g 1 (I_ ((k:Int)+1));have q:Rd B g s (k+1) (Pu.part f ps).2 (d || t) H F (w2.setCell (a_ g 1) (I_ ((k:Int)+1))):=r.fD b (r.rb.at (k+1));have l:=bL (x.o.on (r.rk b) q ⟨x.o.ok.1,x.o.ok.2.1,Nat.le_succ_of_le x.o.ok.2.2⟩);have R3:=bL q;clear r q b x z;generalize Pu.dN s k=b at *;obtain⟨T,R,U,S,V,Q,q,A,C⟩:=l.o.p;have K:=bQ 0 q rfl;have L:=bQ 1 q rfl;have N:=bQ 2 q rfl;have PM:=bL (show Pm _ _ (Pu.part f ps).1 from ⟨T,R,U,S,V,Q,rfl,A,C⟩);have zT:=l.o.ok.2.2;clear q A C;have Z:=bL (uD b l.o.ok.2.1 l.o.ok.1);have Y:=bL (jS (Pu.part f ps).1 b (Pu.part f ps).2);rcases p with h | h | h;all_goals
     subst h;obtain⟨I,q,r⟩:=y.o;have HE:=bL q;have HS:=bL r;clear y q r;go_wp2_with fail;clear G E;generalize w2.setCell (a_ g 1) (I_ ((k:Int)+1))=W3 at *;refine (Mk B g (k+1) s _ _ H F _ _ _ W3 R3.o l.o.ok.1 o_ PM.o l.o.ok.2.1 d_).mono ?_;rintro e w4 ⟨v4,vp4,qs4,rfl,E,G,r⟩;rw[<-HE.o]at E r;have q:=Z.o;have y:=Y.o;rw[<-HE.o]at q y;have X:=bL (l.o.on G r ⟨q.2,by rw[y];exact l.o.ok.2.1,by rw[y];exact zT⟩);obtain⟨af4,mf4,cf4,al4,nl4,cl4,rfl,A,C⟩:=E;have J5:=bL (X.o.put (a':=(Pu.part I ps).1) ⟨af4,mf4,cf4,al4,nl4,cl4,rfl,A,C⟩ (by rw[y];exact q.1));clear A C G r q y K L N l;obtain⟨_,_,_,_,_,_,l,_,_⟩:=X.o.p;have K:=bQ 0 l rfl;have L:=bQ 1 l rfl;have N:=bQ 2 l rfl;have A:=bM l 0;have q:=bM l 1;have r:=bM l 2;clear l X;go_wp2;go_roundg (s.size-(k+1));exact⟨k+1,I,t,zl,rfl,J5.o,HS.o⟩;omega
   .have C:=p;have F:=bL (z.o k f t (.GQ (fun e=>p (.inl e)) (fun e=>p (.inr (.inl e))) (fun e=>p (.inr (.inr e)))));generalize Pu.dN s k=b at *;have n1:(b != 42)=true:=by simp;omega
    have Z:(b != 43)=true:=by simp;omega
    have n3:(b != 63)=true:=by simp;omega
    obtain⟨G,T,R,U,S,V,Q,q,y,l⟩:=JS.yes (nf:=.pc) x.o F.o;have r:=bL x.o.r;have l:=bL l;have I:=bQ 0 r.o rfl;have X:=bQ 1 r.o rfl;have Y:=bQ 2 r.o rfl;have H:=bM r.o 0;have E:=bM r.o 1;have A:=bM r.o 2;have K:=bQ 0 q rfl;have L:=bQ 1 q rfl;have N:=bQ 2 q rfl;clear q;go_wp2;exact br_ (by simp[results,results154,asAddr,Result.andThen,y]) rfl l.o
  .cases e
structure BrI(B g:Nat)(s:Y_)(i:Nat)(d:Bool)(ps:List Pu.aJ)(w:W_)(gR gP:Nat)(gk:Nat)(ok:Bool)(W:W_):Prop where
 yes:ok=true->∃k re D,k<=s.size/\gk=s.size-k+1/\i<=k/\JS B g s k (Pu.part re ps).2 (d || D) (Pu.part re ps).1 w gR gP W/\(∀k' b D2,Pu.P s (.Aq re D) k k' b D2->Pu.P s .br i k' b D2)/\(∀k',aI s .Aq k k'->aI s .br i k')
 no:ok=false->∃k ps' d' a,aI s .br i k/\ps.length<=ps'.length/\gk=0/\JS B g s k ps' d' a w gR gP W
section
variable {B g:Nat} {s:Y_} {k j:Nat} {ps ps':List Pu.aJ} {d d':Bool} {a a':aK} {w:W_} {gR gP gQ:Nat} {W W' W'':W_}
theorem JS.box(h:JS B g s k ps d a w gR gP W){c:Bool}{b e:Option Addr}{l f p i:Nat}(pm:Pm W (.agg #[.bool c,.slice b l f,.slice e p i]) a') :
  JS B g s k ps d a w gR gP (W.alloc (c_ #[.bool c,.slice b l f,.slice e p i] 127))/\dh (W.alloc (c_ #[.bool c,.slice b l f,.slice e p i] 127)) W.heap.size 127 [.bool c,.slice b l f,.slice e p i]/\Pm (W.alloc (c_ #[.bool c,.slice b l f,.slice e p i] 127)) (.agg #[.bool c,.slice b l f,.slice e p i]) a':=by
 have q:=(Br_ W.heap.size W).alloc dF (c_ #[.bool c,.slice b l f,.slice e p i] 127);exact⟨h.below q,hn_ _ _,pm.below q⟩
end
theorem Fp(s:Y_)(i:Nat)(PC:∀k,i<=k->k<=s.size->EX 154 .pc .pc s k)(hi:i<=s.size)(hs:s.size<=400):EX 149 .br .br s i:=by
 intro B g ps d vp qs w h b hl;have BL:=h.lt;have y:Hid (dh (w.alloc (c_ #[.bool false,n_,n_] 127)) w.heap.size 127 [.bool false,n_,n_]):=hn_ _ _;have r:=bL (h.below ((Br_ w.heap.size w).alloc dF (c_ #[.bool false,n_,n_] 127)));have u:Hid (Rk B w (w.alloc (c_ #[.bool false,n_,n_] 127))):=.alloc BL _;have OK:=bL b;have PC:=bL PC;clear h b;go_enter func149,ntmps149;go_wp2_with fail;generalize w.alloc (c_ #[.bool false,n_,n_] 127)=W0 at *;refine (PC.o i dF hi B g ps d vp qs W0 r.o OK.o hl).mono ?_;intro e w1 z;obtain⟨c,af,mf,cf,al,nl,cl,ok,rfl,p⟩:=JS.first z OK.o hl rfl y.o dF u.o BL;have t:Hid (∃gk,BrI B g s i d ps w w.heap.size w1.heap.size gk ok (w1.alloc (c_ #[.bool c,.slice af mf cf,.slice al nl cl] 127))):=by
  rcases p with ⟨rfl,j,l,D,H,f⟩ | ⟨rfl,j,ps',d',a,hF,U,f⟩
  .exact⟨_,fun _=>⟨j,l,D,H.le hi 2 (.inl ⟨trivial,.inl rfl⟩),rfl,H.leaves.2,f,fun I b D2 T=>.br H T,fun I T=>.br2 H T⟩,fun e=>by cases e⟩
  .exact⟨0,fun e=>(by cases e),fun _=>⟨j,ps',d',a,.br1 hF,U,rfl,f⟩⟩
 clear p z r u y;go_wp2_with fail;generalize w1.alloc (c_ #[.bool c,.slice af mf cf,.slice al nl cl] 127)=W2 at *;generalize w1.heap.size=gP at *;generalize w.heap.size=gR at *;obtain⟨gk0,b⟩:=t.o;clear t;go_loopg [5,6,7] gk0 (fun gk f _ _ l=>∃J,f=.bool J/\BrI B g s i d ps w gR gP gk J l);exact⟨ok,rfl,b⟩;clear b;obtain⟨J,rfl,hI⟩:=hrel;cases J with
 | false=>obtain⟨k,ps',d',a,hF,U,b,f⟩:=hI.no rfl;clear hI;obtain⟨c2,C,z,E,A,F,y,q,ld,p⟩:=f.no (nt:=.br) d ps hF U;have t:=bL f.r;have p:=bL p;clear f hF b;have z0:=bQ 0 t.o rfl;have z1:=bQ 1 t.o rfl;have z2:=bQ 2 t.o rfl;have f0:=bM t.o 0;have f1:=bM t.o 1;have f2:=bM t.o 2;have p2:=bQ 0 q rfl;have p3:=bQ 1 q rfl;have p4:=bQ 2 q rfl;clear q;go_wp2;exact br_ (by simp[results,results149,asAddr,Result.andThen,ld]) rfl p.o
 | true=>
  obtain⟨k,l,D,kl,rfl,ik,f,r,b⟩:=hI.yes rfl;clear hI;obtain⟨QW,qs1,x⟩:=f.rd;have G:=bL (mK g k s QW (d || D) wr x.rb);have u:=bL f;have ST:=bL r;have SF:=bL b;clear f x r b;go_wp2_with fail;refine G.o.mono ?_;clear G;rintro e w2 ⟨rfl,b⟩;have f:=bL (u.o.below b);clear b u;go_wp2_with fail;refine (xL (Pu.dN s k) w2).mono ?_;rintro e w3 ⟨rfl,b⟩;have r:=bL (f.o.below b);clear b f;by_cases f:fV (Pu.dN s k)
  .rw [dt_ f];obtain⟨Ux,ZE,b⟩:=r.o.rd;have u:=bL (PC.o k ik kl B g _ _ Ux ZE w3 b r.o.ok.1 r.o.ok.2.2);clear b;go_wp2_with fail;refine u.o.mono ?_;clear u;rintro e w4 (⟨j,u,D2,v,vp4,qs4,H,rfl,pm,rk,x⟩ | ⟨j,Z,K,d2,v,vp4,qs4,hF,rfl,pm,T,I,lk,rk,x⟩);have jl:j<=s.size:=H.le kl 2 (.inl ⟨trivial,.inl rfl⟩);have lv:=H.leaves;simp only[aH.lv]at lv;have jk:k<j:=by have:=aM.wO u;omega
   have b:=AX u _ r.o.ok.1;have zT:=iC u (Pu.part l ps).2;have hlk:=r.o.ok.2.2;have N:=r.o.ok.2.1.mono (show (Pu.part l ps).2.length<=(Pu.part u (Pu.part l ps).2).2.length by omega);have J4:=r.o.on rk x ⟨b.2,N,o_⟩;obtain⟨C,z,E,A,F,y,rfl,n1,n2⟩:=pm;obtain⟨R,Y,G⟩:=J4.box (a':=(Pu.part u (Pu.part l ps).2).1) ⟨C,z,E,A,F,y,rfl,n1,n2⟩;have Mf:=x.below ((Br_ w4.heap.size w4).alloc dF (c_ #[.bool (Pu.part u (Pu.part l ps).2).1.empty,.slice C z E,.slice A F y] 127));rotate_left;have hlk:=r.o.ok.2.2;have zT:=iC l ps;have N:=r.o.ok.2.1.mono lk.1;have J4:=r.o.on rk x ⟨I,N,lk.2⟩;obtain⟨C,z,E,A,F,y,rfl,n1,n2⟩:=pm;obtain⟨R,Y,G⟩:=J4.box (a':=Z) ⟨C,z,E,A,F,y,rfl,n1,n2⟩;have Mf:=x.below ((Br_ w4.heap.size w4).alloc dF (c_ #[.bool Z.empty,.slice C z E,.slice A F y] 127));rotate_left;all_goals
    have R:=bL R;have R5:=bL Mf;have G:=bL G;have q2:=bQ 0 Y rfl;have q3:=bQ 1 Y rfl;have q4:=bQ 2 Y rfl;obtain⟨af3,mf3,cf3,al3,nl3,cl3,q,O,Q⟩:=R.o.p;have p2:=bQ 0 q rfl;have p3:=bQ 1 q rfl;have p4:=bQ 2 q rfl;have PM:=bL (show Pm _ _ (Pu.part l ps).1 from ⟨af3,mf3,cf3,al3,nl3,cl3,rfl,O,Q⟩);have OA:=bL N
   focus
    have S:=bL b;have HP:=bL H;have We:=bL (Ce N b.1 b.2);clear r J4 x rk n1 n2 Mf Y q O Q N b H;go_wp2_with fail;generalize w4.alloc (c_ #[.bool (Pu.part u (Pu.part l ps).2).1.empty,.slice C z E,.slice A F y] 127)=W5 at *
   rotate_left;focus
    have S:=bL (And.intro T I);have FF:Hid (aI s .br i j):=SF.o _ (.ai3 f hF);have We:=bL (Ce N T I);have jl:j<=s.size:=hF.le kl 2 (.inl rfl);clear r J4 x rk n1 n2 Mf Y q O Q N T I hF ST SF f;go_wp2_with fail;generalize w4.alloc (c_ #[.bool Z.empty,.slice C z E,.slice A F y] 127)=W5 at *
   rotate_left;all_goals
    refine (Si B g j s _ _ vp4 qs4 _ _ _ _ W5 R5.o S.o.2 o_ PM.o G.o OA.o S.o.1).mono ?_;clear p2 p3 p4 q2 q3 q4;rintro e w6 ⟨v6,vp6,qs6,rfl,pm6,X,V⟩
   have L:(xZ (Pu.part l ps).1 (Pu.part u (Pu.part l ps).2).1 (Pu.part u (Pu.part l ps).2).2).2.length=(Pu.part u (Pu.part l ps).2).2.length:=ou _ _ _;rotate_left;have L:(xZ (Pu.part l ps).1 Z K).2.length=K.length:=ou _ _ _;rotate_left;all_goals
    have J6:=bL (R.o.on X V ⟨We.o.2,by rw[L];exact OA.o,by rw[L];omega⟩);obtain⟨H,mf6,cf6,al6,nl6,cl6,rfl,O,Q⟩:=pm6
   have J7:=bL (J6.o.put (a':=(Pu.part (.cat l u) ps).1) ⟨H,mf6,cf6,al6,nl6,cl6,rfl,O,Q⟩ (by rw[L];exact We.o.1));have DD:Hid (((d || D) || D2)=(d || (D || D2))):=Bool.or_assoc _ _ _;have ST2:Hid (∀I b D3,Pu.P s (.Aq (.cat l u) (D || D2)) j I b D3->Pu.P s .br i I b D3):=fun I b D3 T=>ST.o _ _ _ (.Aq f HP.o T);have SF2:Hid (∀I,aI s .Aq j I->aI s .br i I):=fun I T=>SF.o _ (.ai4 f HP.o T);clear O Q X V L R ST SF HP f;rotate_left;have J7:=bL (J6.o.put (a':=(xZ (Pu.part l ps).1 Z K).1) ⟨H,mf6,cf6,al6,nl6,cl6,rfl,O,Q⟩ (by rw[L];exact We.o.1));have I:Hid (ps.length<=(xZ (Pu.part l ps).1 Z K).2.length):=by show _<=_;rw[L];omega
   clear O Q X V L R;rotate_left;all_goals
    obtain⟨_,_,_,_,_,_,b,_,_⟩:=J6.o.p;have p2:=bQ 0 b rfl;have p3:=bQ 1 b rfl;have p4:=bQ 2 b rfl;have f2:=bM b 0;have T:=bM b 1;have f4:=bM b 2;clear b J6;go_wp2
   .go_roundg (s.size-j+1);exact⟨true,rfl,fun _=>⟨j,.cat l u,D || D2,jl,rfl,o_,by rw[<-DD.o];exact J7.o,ST2.o,SF2.o⟩,fun e=>by cases e⟩;omega
   .go_roundg 0;exact⟨false,rfl,fun e=>(by cases e),fun _=>⟨j,_,_,_,FF.o,I.o,rfl,J7.o⟩⟩;omega
  .rw [dn_ f];have b:=ST.o k l D (.Lb f);obtain⟨c2,C,z,E,A,F,y,q,ld,p⟩:=JS.yes (nf:=.br) r.o b;have t:=bL r.o.r;have p:=bL p;clear b f;have z0:=bQ 0 t.o rfl;have z1:=bQ 1 t.o rfl;have z2:=bQ 2 t.o rfl;have f0:=bM t.o 0;have f1:=bM t.o 1;have f2:=bM t.o 2;have p2:=bQ 0 q rfl;have p3:=bQ 1 q rfl;have p4:=bQ 2 q rfl;clear q;go_wp2;exact br_ (by simp[results,results149,asAddr,Result.andThen,ld]) rfl p.o
structure PaI(B g:Nat)(s:Y_)(i:Nat)(d:Bool)(ps:List Pu.aJ)(w:W_)(gR gP:Nat)(gk:Nat)(ok:Bool)(W:W_):Prop where
 yes:ok=true->∃k re D,k<=s.size/\gk=s.size-k+1/\i<=k/\JS B g s k (Pu.part re ps).2 (d || D) (Pu.part re ps).1 w gR gP W/\(∀k' b D2,Pu.P s (.zS re D) k k' b D2->Pu.P s .pa i k' b D2)/\(∀k',aI s .zS k k'->aI s .pa i k')
 no:ok=false->∃k ps' d' a,aI s .pa i k/\ps.length<=ps'.length/\gk=0/\JS B g s k ps' d' a w gR gP W
theorem Du(s:Y_)(i:Nat)(PC:∀k,i<=k->k<=s.size->EX 149 .br .br s k)(hi:i<=s.size)(hs:s.size<=400):EX 141 .pa .pa s i:=by
 intro B g ps d vp qs w h b hl;have BL:=h.lt;have z:Hid (dh (w.alloc (c_ #[.bool false,n_,n_] 127)) w.heap.size 127 [.bool false,n_,n_]):=hn_ _ _;have t:=bL (h.below ((Br_ w.heap.size w).alloc dF (c_ #[.bool false,n_,n_] 127)));have x:Hid (Rk B w (w.alloc (c_ #[.bool false,n_,n_] 127))):=.alloc BL _;have OK:=bL b;have PC:=bL PC;clear h b;go_enter func141,ntmps141;go_wp2_with fail;generalize w.alloc (c_ #[.bool false,n_,n_] 127)=W0 at *;refine (PC.o i dF hi B g ps d vp qs W0 t.o OK.o hl).mono ?_;intro e w1 A;obtain⟨c,af,mf,cf,al,nl,cl,ok,rfl,p⟩:=JS.first A OK.o hl rfl z.o dF x.o BL;have u:Hid (∃gk,PaI B g s i d ps w w.heap.size w1.heap.size gk ok (w1.alloc (c_ #[.bool c,.slice af mf cf,.slice al nl cl] 127))):=by
  rcases p with ⟨rfl,j,l,D,I,f⟩ | ⟨rfl,j,ps',d',a,hF,X,f⟩
  .exact⟨_,fun _=>⟨j,l,D,I.le hi 2 (.inl ⟨trivial,.inl rfl⟩),rfl,I.leaves.2,f,fun K b D2 U=>.pa I U,fun K U=>.pa2 I U⟩,fun e=>by cases e⟩
  .exact⟨0,fun e=>(by cases e),fun _=>⟨j,ps',d',a,.pa1 hF,X,rfl,f⟩⟩
 clear p A t x z;go_wp2_with fail;generalize w1.alloc (c_ #[.bool c,.slice af mf cf,.slice al nl cl] 127)=W2 at *;generalize w1.heap.size=gP at *;generalize w.heap.size=gR at *;obtain⟨gk0,b⟩:=u.o;clear u;go_loopg [5,6,7] gk0 (fun gk f _ _ l=>∃L,f=.bool L/\PaI B g s i d ps w gR gP gk L l);exact⟨ok,rfl,b⟩;clear b;obtain⟨L,rfl,hI⟩:=hrel;cases L with
 | false=>obtain⟨k,ps',d',a,hF,X,b,f⟩:=hI.no rfl;clear hI;obtain⟨c2,F,C,G,E,H,A,r,ld,p⟩:=f.no (nt:=.pa) d ps hF X;have t:=bL f.r;have p:=bL p;clear f hF b;have z0:=bQ 0 t.o rfl;have z1:=bQ 1 t.o rfl;have z2:=bQ 2 t.o rfl;have f0:=bM t.o 0;have f1:=bM t.o 1;have f2:=bM t.o 2;have p2:=bQ 0 r rfl;have p3:=bQ 1 r rfl;have p4:=bQ 2 r rfl;clear r;go_wp2;exact br_ (by simp[results,results141,asAddr,Result.andThen,ld]) rfl p.o
 | true=>
  obtain⟨k,l,D,kl,rfl,ik,f,u,b⟩:=hI.yes rfl;clear hI;obtain⟨QW,qs1,y⟩:=f.rd;have x:=bL (pE g k s QW (d || D) 124 wr y.rb o_);have Y:=bL y;have N:=bL f;have ST:=bL u;have SF:=bL b;clear f y u b;by_cases f:Pu.dN s k=124;rw[if_pos f,dt_ f]at x;have zl:k<s.size:=Pu.fK (s:=s) (i:=k) (by rw[f];decide);rotate_left;rw[if_neg f,dn_ f]at x;rotate_left;all_goals
   go_wp2_with fail;refine x.o.mono ?_;clear x;rintro e w3 ⟨rfl,u,J⟩
  .have q:=bL (N.o.on (Y.o.rk u) (Y.o.fD u J) ⟨N.o.ok.1,N.o.ok.2.1,Nat.le_succ_of_le N.o.ok.2.2⟩);clear u J N Y;obtain⟨Ux,ZE,b⟩:=q.o.rd;have x:=bL (PC.o (k+1) o_ zl B g _ _ Ux ZE w3 b q.o.ok.1 q.o.ok.2.2);clear b;go_wp2_with fail;refine x.o.mono ?_;clear x;rintro e w4 (⟨j,z,D2,v,vp4,qs4,I,rfl,pm,rk,y⟩ | ⟨j,a2,ps2,d2,v,vp4,qs4,hF,rfl,pm,U,K,lk,rk,y⟩);have jl:j<=s.size:=I.le zl 2 (.inl ⟨trivial,.inl rfl⟩);have lv:=I.leaves;simp only[aH.lv]at lv;have jk:k<j:=by have:=aM.wO z;omega
   have b:=AX z _ q.o.ok.1;have zT:=iC z (Pu.part l ps).2;have hlk:=q.o.ok.2.2;have O:=q.o.ok.2.1.mono (show (Pu.part l ps).2.length<=(Pu.part z (Pu.part l ps).2).2.length by omega);have J4:=q.o.on rk y ⟨b.2,O,o_⟩;obtain⟨F,C,G,E,H,A,rfl,n1,n2⟩:=pm;obtain⟨S,Z,x⟩:=J4.box (a':=(Pu.part z (Pu.part l ps).2).1) ⟨F,C,G,E,H,A,rfl,n1,n2⟩;have Mf:=y.below ((Br_ w4.heap.size w4).alloc dF (c_ #[.bool (Pu.part z (Pu.part l ps).2).1.empty,.slice F C G,.slice E H A] 127));rotate_left;have hlk:=q.o.ok.2.2;have zT:=iC l ps;have O:=q.o.ok.2.1.mono lk.1;have J4:=q.o.on rk y ⟨K,O,lk.2⟩;obtain⟨F,C,G,E,H,A,rfl,n1,n2⟩:=pm;obtain⟨S,Z,x⟩:=J4.box (a':=a2) ⟨F,C,G,E,H,A,rfl,n1,n2⟩;have Mf:=y.below ((Br_ w4.heap.size w4).alloc dF (c_ #[.bool a2.empty,.slice F C G,.slice E H A] 127));rotate_left;all_goals
    have S:=bL S;have R5:=bL Mf;have x:=bL x;have q2:=bQ 0 Z rfl;have q3:=bQ 1 Z rfl;have q4:=bQ 2 Z rfl;obtain⟨af3,mf3,cf3,al3,nl3,cl3,r,Q,R⟩:=S.o.p;have p2:=bQ 0 r rfl;have p3:=bQ 1 r rfl;have p4:=bQ 2 r rfl;have PM:=bL (show Pm _ _ (Pu.part l ps).1 from ⟨af3,mf3,cf3,al3,nl3,cl3,rfl,Q,R⟩);have OA:=bL O
   focus
    have T:=bL b;have HP:=bL I;have We:=bL (Pu.BR O b.1);have rl:=Mf.lt;clear q J4 y rk n1 n2 Mf Z r Q R O b I;go_wp2_with fail;generalize w4.alloc (c_ #[.bool (Pu.part z (Pu.part l ps).2).1.empty,.slice F C G,.slice E H A] 127)=W5 at *;refine (FE _ _ _ _ W5 PM.o x.o (Pu.part z (Pu.part l ps).2).2.length o_ OA.o T.o.1).mono ?_
   rotate_left;focus
    have T:=bL (And.intro U K);have FF:Hid (aI s .pa i j):=SF.o _ (.akd f hF);have We:=bL (Pu.BR O U);have jl:j<=s.size:=hF.le zl 2 (.inl rfl);have PL:Hid (ps.length<=ps2.length):=by show _<=_;omega
    clear q J4 y rk n1 n2 Mf Z r Q R O U K hF ST SF f;go_wp2_with fail;generalize w4.alloc (c_ #[.bool a2.empty,.slice F C G,.slice E H A] 127)=W5 at *;refine (FE _ _ _ _ W5 PM.o x.o ps2.length o_ OA.o T.o.1).mono ?_
   rotate_left;all_goals
    clear p2 p3 p4 q2 q3 q4;rintro e w6 ⟨v6,rfl,pm6,V⟩;have J6:=bL (S.o.below V);obtain⟨I,mf6,cf6,al6,nl6,cl6,rfl,Q,R⟩:=pm6
   have J7:=bL (J6.o.put (a':=(Pu.part (.alt l z) ps).1) ⟨I,mf6,cf6,al6,nl6,cl6,rfl,Q,R⟩ We.o);have DD:Hid (((d || D) || D2)=(d || (D || D2))):=Bool.or_assoc _ _ _;have ST2:Hid (∀K b D3,Pu.P s (.zS (.alt l z) (D || D2)) j K b D3->Pu.P s .pa i K b D3):=fun K b D3 U=>ST.o _ _ _ (.zS f HP.o U);have SF2:Hid (∀K,aI s .zS j K->aI s .pa i K):=fun K U=>SF.o _ (.ake f HP.o U);clear Q R V S ST SF HP f;rotate_left;have J7:=bL (J6.o.put (a':=Pu.either (Pu.part l ps).1 a2) ⟨I,mf6,cf6,al6,nl6,cl6,rfl,Q,R⟩ We.o);clear Q R V S;rotate_left;all_goals
    obtain⟨_,_,_,_,_,_,b,_,_⟩:=J6.o.p;have p2:=bQ 0 b rfl;have p3:=bQ 1 b rfl;have p4:=bQ 2 b rfl;have f2:=bM b 0;have K:=bM b 1;have U:=bM b 2;clear b J6;go_wp2
   .go_roundg (s.size-j+1);exact⟨true,rfl,fun _=>⟨j,.alt l z,D || D2,jl,rfl,o_,by rw[<-DD.o];exact J7.o,ST2.o,SF2.o⟩,fun e=>by cases e⟩;omega
   .go_roundg 0;exact⟨false,rfl,fun e=>(by cases e),fun _=>⟨j,_,_,_,FF.o,PL.o,rfl,J7.o⟩⟩;omega
  .have q:=bL (N.o.on (Y.o.rk u) (Y.o.fD u J) N.o.ok);clear u J N Y;have b:=ST.o k l D (.IK f);obtain⟨c2,F,C,G,E,H,A,r,ld,p⟩:=JS.yes (nf:=.pa) q.o b;have t:=bL q.o.r;have p:=bL p;clear b f;have z0:=bQ 0 t.o rfl;have z1:=bQ 1 t.o rfl;have z2:=bQ 2 t.o rfl;have f0:=bM t.o 0;have f1:=bM t.o 1;have f2:=bM t.o 2;have p2:=bQ 0 r rfl;have p3:=bQ 1 r rfl;have p4:=bQ 2 r rfl;clear r;go_wp2;exact br_ (by simp[results,results141,asAddr,Result.andThen,ld]) rfl p.o
theorem PY(s:Y_)(c:s.size<=400):∀i,i<=s.size->EX 141 .pa .pa s i:=by
 have p:∀n i,i<=s.size->s.size-i<=n->EX 141 .pa .pa s i:=by
  intro n;induction n with
  | zero=>intro i f t;exact Du s i (fun k r q=>Fp s k (fun e l b=>JV s e (NJ s e (fun h=>o_) b c) b c) q c) f c
  | succ n u=>intro i f t;exact Du s i (fun k r q=>Fp s k (fun e l b=>JV s e (NJ s e (fun h=>u (e+1) h o_) b c) b c) q c) f c
 exact fun i f=>p _ i f dF
theorem Tryz.info5 : (prog.info? 5).map (fun i=>(i.zero,i.size,i.bytes))=some (some (.int .u8 0),1,1):=k_
def rq(xs:List Int):List V_:=xs.map (Value.int .u8)
theorem Us(xs ys:List Int):rq (xs++ys)=rq xs++rq ys:=by simp[rq]
def Bytes(B:Nat)(w:W_)(v:V_)(xs:List Int):Prop:=w.ownsRow B 5 1 v xs.length (rq xs)
theorem jL{xs:List V_}{t:TypeId}(c:n=w.heap.size)(j:Nat)(u:V_)(h:xs[j]?=some u):(w.alloc (c_ xs.toArray t)).cell? (((a_ n 0):Addr).add j)=some u:=by
 subst c;have:(w.alloc (c_ xs.toArray t)).cell? (a_ w.heap.size j)=some u:=by rw[World.cell?_alloc_mark];simpa using h
 by_cases b:j=0
 .subst b;simpa [Addr.add]using this
 .simpa [Addr.add,b]using this
theorem Bytes.on{ys:List Int}(b:n=xs.length+ys.length)(h:w.ownsRow B 5 1 v n (rq xs++rq ys)):Bytes B w v (xs++ys):=by subst b;unfold Bytes;rw[Us,la_];exact h
theorem aeU{g:Nat}(b:B<=w.heap.size)(e:n=xs.length)(f:n<=1000000)(c:g=w.heap.size):Bytes B (w.alloc (c_ (rq xs).toArray 5)) (s_ g n n) xs:=by subst e;subst c;refine⟨by simp[rq],.inr ⟨w.heap.size,xs.length,(rq xs).toArray,rfl,b,hn_ w _,dF,by unfold maxLen;omega,by simp[rq],?_⟩⟩;rw[List.take_of_length_le (by simp[rq])]
def aab(xs:List Int)(w:W_)(e:Ending)(w':W_):Prop:=e=.returned (.string (strOfNums xs))/\B_ w w'
theorem Bytes.str(h:Bytes B w v xs)(r:0<xs.length) :
  ∃g c,v=s_ g xs.length c/\(convert 109 9 (s_ g xs.length c)).run prog w=.ok (.string (strOfNums xs)) w:=by
 obtain⟨q,c,e,_,_,f⟩:=iO h;obtain⟨b,rfl,_,_,l⟩:=f 0 o_;refine⟨b,c,e,run_convert_bytes_arg w 109 5 underlying109 underlying5 b 0 xs.length c xs rfl (fun i p=>?_) 9 underlying9⟩;rw[Nat.zero_add];exact l i _ (by simp[rq,gg_ p])
def Z0(B:Nat)(xs:List Int)(w:W_)(e:Ending)(w':W_):Prop:=∃v,e=.returned v/\Bytes B w' v xs/\Below B w w'
structure aN(B:Nat)(W0 w:W_)(v:V_)(xs:List Int)(b:Nat)(C:Array V_)(t:TypeId):Prop where
 qK:Below B W0 w
 byt:Bytes B w v xs
 loc:w.heap[b]?=some (c_ C t (0,0))
 sz:B<=w.heap.size
theorem mG{w:W_}{b:Nat}{C:Array V_}{t:TypeId}(h:w.heap[b]?=some (c_ C t (0,0))){j:Nat}{u:V_}(c:C[j]?=some u):w.cell? (a_ b j)=some u:=by simp[World.cell?,h,c]
theorem aN.app{u:W_}{x:V_}{ys:List Int}{b:Nat}{C:Array V_}{t:TypeId}{o:Obj}(s:aN B W0 w v xs b C t)(D:t≠5)(A:n=xs.length+ys.length)
  (h:u.ownsRow B 5 1 x n (rq xs++rq ys)) (i:(w.alloc o).grownBy u v.ownBlock):aN B W0 u x (xs++ys) b C t:=by
 have l:=ol_ s.byt;have q:=i.size;simp only[wa_]at q;have f:b<w.heap.size:=(Array.getElem?_eq_some_iff.1 s.loc).1;have p:some b≠v.ownBlock:=by
  intro e;rcases s.byt.2 with ⟨r,_⟩ | ⟨g,y,z,r,_,c,_⟩
  .rw [r]at e;simp[Value.ownBlock]at e
  .rw [r]at e;simp[Value.ownBlock]at e;subst e;rw[s.loc]at c;simp at c;exact D c.2
 refine⟨(s.qK.alloc s.sz o).grown i (by simp only[wa_];have:=s.sz;omega) (fun k c=>(l k c).1),Bytes.on A h,?_,by have:=s.sz;omega⟩;rw[i.block b (by simp only[wa_];omega) p];rw[heap_alloc_old w o f];exact s.loc
theorem aN.step{B:Nat}{W0 w:W_}{v:V_}{xs:List Int}{b:Nat}{C:Array V_}{t:TypeId}(s:aN B W0 w v xs b C t)(o:Obj):aN B W0 (w.alloc o) v xs b C t:=
 ⟨s.qK.alloc s.sz o,oa_ s.byt o,by rw[heap_alloc_old w o (Array.getElem?_eq_some_iff.1 s.loc).1];exact s.loc,by have:=s.sz;simp only[wa_];omega⟩
theorem aN.made{h:W_}{b:Nat}{C:Array V_}{t:TypeId}(f:W0.grownBy h none)(l:B<=W0.heap.size)(i:h.ownsRow B 5 1 v 0 [])(c:W0.heap[b]?=some (c_ C t (0,0))):aN B W0 h v [] b C t:=by have q:=f.size;have e:b<W0.heap.size:=(Array.getElem?_eq_some_iff.1 c).1;refine⟨(Br_ _ _).grown f l (fun k p=>by cases p),i,?_,o_⟩;rw[f.block b e i_];exact c
theorem Kj(ve vr vc:V_)(p:lZ)(w:W_)(hE:om w ve p.ents)(hR:jX w vr p.rules)(hC:Code w vc p.code)(hp:gu p) :
  Calls prog 51 #[.agg #[ve,vr,vc]] w (aab (Pu.rT p) w):=by
 obtain⟨aS,X,G,H,I⟩:=ip_ info5;obtain⟨z,D,rfl,he1,he2,tL⟩:=hE.read;obtain⟨A,E,rfl,hr1,hr2,qD⟩:=hR.read;obtain⟨y,C,rfl,hc1,hc2,nP⟩:=hC.read;clear hE hR hC;have hm:=hp.1.1;have hk:=hp.2.1.1;have hn:=hp.2.2.1.1;have HP:=bL hp;clear hp;have b:(w.alloc (c_ #[.slice z p.ents.length D,.slice A p.rules.length E,.slice y p.code.length C] 42)).heap[w.heap.size]?=some (c_ #[.slice z p.ents.length D,.slice A p.rules.length E,.slice y p.code.length C] 42 (0,0)):=hn_ _ _;have HBX:=bL b;clear b;go_in;go_wp2_with (first | (at_make;refine wpList_make_own _ rfl _ _ 109 rfl (w.heap.size+1) 5 aS (.int .u8 0) 1 underlying109 X G H _ _ _ (6+p.ents.length*2+p.rules.length*3+p.code.length*5) rfl rfl o_ (by rw[I];omega) (by unfold maxLen;omega) i_ ?_;intro w1 mQ jR;have b:=aN.made jR i_ mQ HBX.o;simp only[wa_]at b;clear mQ jR;have e:=mG (j:=0) b.loc rfl;have f:=mG (j:=1) b.loc rfl;have l:=mG (j:=2) b.loc rfl) | (at_builtin;refine wo_ _ rfl (.tmp 26) (.tmp 35) 109 rfl (w.heap.size+1) 5 aS (.int .u8 0) 1 1 underlying109 X G H I rfl d_ _ 0 [] rfl (oa_ b.byt _) (a_ w1.heap.size 0) 4 4 (rq [87,82,(p.ents.length:Int),(p.rules.length:Int)]) rfl rfl (jL rfl) (by intro u i;simp[rq]at i;rcases i with rfl | rfl | rfl | rfl <;> rfl) (by unfold maxLen;omega) o_ (by have:=b.sz;simp;omega) ?_;intro v2 w2 L K _;have F:=b.app d_ rfl L K;clear L K;have q:=mG (j:=2) F.loc rfl) | (at_builtin;refine wo_ _ rfl (.tmp 37) (.tmp 47) 109 rfl (w.heap.size+1) 5 aS (.int .u8 0) 1 1 underlying109 X G H I rfl d_ v2 ([]++[87,82,(p.ents.length:Int),(p.rules.length:Int)]).length (rq ([]++[87,82,(p.ents.length:Int),(p.rules.length:Int)])) rfl (oa_ F.byt _) (a_ w2.heap.size 0) 2 2 (rq [(p.code.length:Int) % 256,(p.code.length:Int) / 256]) rfl rfl (jL rfl) (by intro u i;simp[rq]at i;rcases i with rfl | rfl <;> rfl) (by unfold maxLen;simp) i_ (by have:=F.sz;simp;omega) ?_;intro v3 w3 mR rQ _;have c:=F.app d_ rfl mR rQ;clear mR rQ;have i:=mG (j:=0) c.loc rfl));clear e f l q b F;have e:Hid (aN (w.heap.size+1) (w.alloc (c_ #[.slice z p.ents.length D,.slice A p.rules.length E,.slice y p.code.length C] 42)) w3 v3 (bC p 0) w.heap.size #[.slice z p.ents.length D,.slice A p.rules.length E,.slice y p.code.length C] 42):=by show aN _ _ _ _ _ _ _ _;rw[VT];exact c
 clear c;go_wp2_with fail;clear i;have J:B_ w (w.alloc (c_ #[.slice z p.ents.length D,.slice A p.rules.length E,.slice y p.code.length C] 42)):=kM _;go_loopw [3,52] (fun b i wr=>∃(k:Nat) (l:V_),k<=p.ents.length/\i=I_ k/\l=b/\aN (w.heap.size+1) (w.alloc (c_ #[.slice z p.ents.length D,.slice A p.rules.length E,.slice y p.code.length C] 42)) wr l (bC p k) w.heap.size #[.slice z p.ents.length D,.slice A p.rules.length E,.slice y p.code.length C] 42) (fun _ i _=>p.ents.length-(intOf i).toNat);exact⟨0,_,zl_ _,rfl,rfl,e.o⟩;clear e;obtain⟨k,b,t,rfl,rfl,q⟩:=hrel;have c:=q.qK;by_cases f:k<p.ents.length
 .obtain⟨l,e,rfl,O,Q⟩:=tL k f;have R:=(c.cell (p:=(a_ l (e+k))) (by simp;omega)).trans ((J.cell (p:=(a_ l (e+k))) O).trans Q);have r:=Cy HP.o f;have i:=VS p k f;have x:=bL i;have u:=Uy p k t;generalize F:bC p k=xs at *;have hxl:xs.length<=300000:=o_;have S0:=bL q;clear tL qD nP Q u i q F c J;go_wp2_with (at_builtin;refine wo_ _ rfl (.tmp 56) (.tmp 62) 109 rfl (w.heap.size+1) 5 aS (.int .u8 0) 1 1 underlying109 X G H I rfl d_ b xs.length (rq xs) rfl (oa_ S0.o.byt _) (a_ wr.heap.size 0) 2 2 (rq [Pu.aU p.ents k % 256,Pu.aU p.ents k / 256]) rfl rfl (jL i_) (by intro u i;simp[rq]at i;rcases i with rfl | rfl <;> rfl) (by unfold maxLen;omega) o_ (by have:=S0.o.sz;simp;omega) ?_;intro v2 w2 L K _;have F:=S0.o.app d_ rfl L K;clear L K);have i:=F;rw[<-x.o]at i;clear F R;go_roundw;case rel=>exact⟨k+1,_,o_,by go_num,rfl,i⟩
  case measure=>simp[intOf];omega
 .have N:k=p.ents.length:=o_;subst N;have S0:Hid (aN (w.heap.size+1) (w.alloc (c_ #[.slice z p.ents.length D,.slice A p.rules.length E,.slice y p.code.length C] 42)) wr b (bD p 0) w.heap.size #[.slice z p.ents.length D,.slice A p.rules.length E,.slice y p.code.length C] 42):=by show aN _ _ _ _ _ _ _ _;rw[VW];exact q
  have e:=mG (j:=1) q.loc rfl;clear q tL f t c;go_wp2_with fail;clear e;go_loopw [3,68] (fun b i wr=>∃(k:Nat) (l:V_),k<=p.rules.length/\i=I_ k/\l=b/\aN (w.heap.size+1) (w.alloc (c_ #[.slice z p.ents.length D,.slice A p.rules.length E,.slice y p.code.length C] 42)) wr l (bD p k) w.heap.size #[.slice z p.ents.length D,.slice A p.rules.length E,.slice y p.code.length C] 42) (fun _ i _=>p.rules.length-(intOf i).toNat);exact⟨0,_,zl_ _,rfl,rfl,S0.o⟩;clear S0;obtain⟨k,b,t,rfl,rfl,q⟩:=hrel;have c:=q.qK;have S:=q.sz;by_cases f:k<p.rules.length
  .obtain⟨l,e,rfl,O,Q,Y,Z⟩:=qD k f;have R:=(c.cell (p:=(a_ l (e+k*3))) (by simp;omega)).trans ((J.cell (p:=(a_ l (e+k*3))) O).trans Q);have g1:=(c.cell (p:=(a_ l (e+k*3+1))) (by simp;omega)).trans ((J.cell (p:=(a_ l (e+k*3+1))) O).trans Y);have g2:=(c.cell (p:=(a_ l (e+k*3+2))) (by simp;omega)).trans ((J.cell (p:=(a_ l (e+k*3+2))) O).trans Z);obtain⟨T,U,V⟩:=zV HP.o f;have i:=VU p k f;have x:=bL i;have u:=Uz p k t;generalize Pu.rg p.rules k=r at *;obtain⟨re,ra,rm⟩:=r;simp only at R g1 g2 T U V x;generalize F:bD p k=xs at *;have hxl:xs.length<=300000:=o_;have S0:=bL (q.step (c_ #[I_ re,I_ ra,I_ rm] 48));clear qD nP Q Y Z u i q F c J;go_wp2_with (at_builtin;refine wo_ _ rfl (.tmp 72) (.tmp 82) 109 rfl (w.heap.size+1) 5 aS (.int .u8 0) 1 1 underlying109 X G H I rfl d_ b xs.length (rq xs) rfl (oa_ S0.o.byt _) (a_ (wr.heap.size+1) 0) 3 3 (rq [re,ra,rm]) rfl rfl (jL i_) (by intro u i;simp[rq]at i;rcases i with rfl | rfl | rfl <;> rfl) (by unfold maxLen;omega) o_ (by have:=S0.o.sz;simp;omega) ?_;intro v2 w2 L K _;have F:=S0.o.app d_ rfl L K;clear L K);have i:=F;rw[<-x.o]at i;clear F R g1 g2;go_roundw;case rel=>exact⟨k+1,_,o_,by go_num,rfl,i⟩
   case measure=>simp[intOf];omega
  .have N:k=p.rules.length:=o_;subst N;have S0:Hid (aN (w.heap.size+1) (w.alloc (c_ #[.slice z p.ents.length D,.slice A p.rules.length E,.slice y p.code.length C] 42)) wr b (bG p 0) w.heap.size #[.slice z p.ents.length D,.slice A p.rules.length E,.slice y p.code.length C] 42):=by show aN _ _ _ _ _ _ _ _;rw[VY];exact q
   have e:=mG (j:=2) q.loc rfl;clear q qD f t c S;go_wp2_with fail;clear e;go_loopw [3,88] (fun b i wr=>∃(k:Nat) (l:V_),k<=p.code.length/\i=I_ k/\l=b/\aN (w.heap.size+1) (w.alloc (c_ #[.slice z p.ents.length D,.slice A p.rules.length E,.slice y p.code.length C] 42)) wr l (bG p k) w.heap.size #[.slice z p.ents.length D,.slice A p.rules.length E,.slice y p.code.length C] 42) (fun _ i _=>p.code.length-(intOf i).toNat);exact⟨0,_,zl_ _,rfl,rfl,S0.o⟩;clear S0;obtain⟨k,b,t,rfl,rfl,q⟩:=hrel;have c:=q.qK;have S:=q.sz;by_cases f:k<p.code.length
   .obtain⟨l,e,rfl,O,Q,Y,Z,e3⟩:=nP k f;have R:=(c.cell (p:=(a_ l (e+k*4))) (by simp;omega)).trans ((J.cell (p:=(a_ l (e+k*4))) O).trans Q);have g1:=(c.cell (p:=(a_ l (e+k*4+1))) (by simp;omega)).trans ((J.cell (p:=(a_ l (e+k*4+1))) O).trans Y);have g2:=(c.cell (p:=(a_ l (e+k*4+2))) (by simp;omega)).trans ((J.cell (p:=(a_ l (e+k*4+2))) O).trans Z);have g3:=(c.cell (p:=(a_ l (e+k*4+3))) (by simp;omega)).trans ((J.cell (p:=(a_ l (e+k*4+3))) O).trans e3);obtain⟨T,U,V,hx3⟩:=Cz HP.o f;have i:=VX p k f;have x:=bL i;have u:=Hy p k t;generalize Pu.aO p.code k=r at *;obtain⟨xo,xa,xb,xt⟩:=r;simp only at R g1 g2 g3 T U V hx3 x;generalize F:bG p k=xs at *;have hxl:xs.length<=300000:=o_;have S0:=bL (q.step (c_ #[I_ xo,I_ xa,I_ xb,I_ xt] 50));clear nP Q Y Z e3 u i q F c J;go_wp2_with (at_builtin;refine wo_ _ rfl (.tmp 92) (.tmp 109) 109 rfl (w.heap.size+1) 5 aS (.int .u8 0) 1 1 underlying109 X G H I rfl d_ b xs.length (rq xs) rfl (oa_ S0.o.byt _) (a_ (wr.heap.size+1) 0) 5 5 (rq [xo,xa,xb,xt % 256,xt / 256]) rfl rfl (jL i_) (by intro u i;simp[rq]at i;rcases i with rfl | rfl | rfl | rfl | rfl <;> rfl) (by unfold maxLen;omega) o_ (by have:=S0.o.sz;simp;omega) ?_;intro v2 w2 L K _;have F:=S0.o.app d_ rfl L K;clear L K);have i:=F;rw[<-x.o]at i;clear F R g1 g2 g3;go_roundw;case rel=>exact⟨k+1,_,o_,by go_num,rfl,i⟩
    case measure=>simp[intOf];omega
   .have N:k=p.code.length:=o_;subst N;have u:=Hy p p.code.length dF;obtain⟨g,e,rfl,i⟩:=q.byt.str o_;clear nP f t u q S;go_wp2;go_ret;exact⟨rfl,J.trans (c.mono o_)⟩
end Go.Proofs.YtmccnmgaoppogabGreat
