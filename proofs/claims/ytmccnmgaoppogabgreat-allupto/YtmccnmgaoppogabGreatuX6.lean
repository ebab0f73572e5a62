import Derived.Test.YtmccnmgaoppogabGreatuKbb
namespace Go.Proofs.YtmccnmgaoppogabGreat
open Pu
set_option linter.all false
open Go.Proofs.Tryz Tryz
set_option maxRecDepth 100000
set_option maxHeartbeats 8000000
open Go.RowKit
structure lQ(w0:W_)(gw g:Nat)(s:Y_)(n L gb cb ge ce:Nat)(bs es:List Nat)(bg en:Nat->Nat->Bool)(W:W_):Prop where
 be:B_ w0 W
 b:dh W gw 268 [p_ g,.string s,s_ gb n cb,s_ ge n ce]
 ob:W.ownsRow w0.heap.size 153 1 (s_ gb n cb) n (nV L bs)
 oe:W.ownsRow w0.heap.size 153 1 (s_ ge n ce) n (nV L es)
 lb:bs.length=n
 le:es.length=n
 rb:∀i g,bs[i]?=some g->Bl W g L (bg i)
 re:∀i g,es[i]?=some g->Bl W g L (en i)
 nd:(bs++es).Nodup
 lo:∀g∈bs++es,w0.heap.size<=g
section
variable {w0:W_} {gw g:Nat} {s:Y_} {n L gb cb ge ce:Nat} {bs es:List Nat} {bg en:Nat->Nat->Bool} {W W':W_}
theorem lQ.below(h:lQ w0 gw g s n L gb cb ge ce bs es bg en W)(a:B_ W W'):lQ w0 gw g s n L gb cb ge ce bs es bg en W':=
 ⟨ja h.be a,bO h.b a (bP h.b),bW h.ob a dF,bW h.oe a dF,h.lb,h.le,fun i g e=>bO (h.rb i g e) a (bP (h.rb i g e)),fun i g e=>bO (h.re i g e) a (bP (h.re i g e)),h.nd,h.lo⟩
theorem lQ.neB(h:lQ w0 gw g s n L gb cb ge ce bs es bg en W){i j a b:Nat}(f:bs[i]?=some a)(k:bs[j]?=some b)(ne:i≠j):a≠b:=by intro e;subst e;have c:=ge_.1 f;have d:=ge_.1 k;exact ne ((List.getElem_inj (h₀:=c.1) (h₁:=d.1) (List.nodup_append.1 h.nd).1).1 (c.2.trans d.2.symm))
theorem lQ.neE(h:lQ w0 gw g s n L gb cb ge ce bs es bg en W){i j a b:Nat}(f:es[i]?=some a)(k:es[j]?=some b)(ne:i≠j):a≠b:=by intro e;subst e;have c:=ge_.1 f;have d:=ge_.1 k;exact ne ((List.getElem_inj (h₀:=c.1) (h₁:=d.1) (List.nodup_append.1 h.nd).2.1).1 (c.2.trans d.2.symm))
theorem lQ.ab3(h:lQ w0 gw g s n L gb cb ge ce bs es bg en W){i j a b:Nat}(c:bs[i]?=some a)(d:es[j]?=some b):a≠b:=
 (List.nodup_append.1 h.nd).2.2 a (mg_ c) b (mg_ d)
theorem lQ.xV(h:lQ w0 gw g s n L gb cb ge ce bs es bg en W){c d:Nat}{row:Nat->Bool}(f:bs[c]?=some d)(b:W.grownBy W' (some d))(q:Bl W' d L row):lQ w0 gw g s n L gb cb ge ce bs es (dV bg c row) en W':=by
 have l:=h.rb c d f;have j:=h.lo d (List.mem_append_left _ (mg_ f));refine⟨h.be.grown b (lt_ j (ll_ (bP l))) (fun k e=>by cases e;exact j),bR h.b b (fun e=>dI h.b l d_ (oi_ e)),dG h.ob l d_ b,dG h.oe l d_ b,h.lb,h.le,fun i k a=>?_,fun i k a=>bR (h.re i k a) b (fun e=>h.ab3 f a (oi_ e).symm),h.nd,h.lo⟩;by_cases e:i=c
 .subst e;rw[f]at a;cases a;rw[wz];exact q
 .rw [Bi e];exact bR (h.rb i k a) b (fun p=>h.neB a f e (oi_ p))
theorem lQ.uz(h:lQ w0 gw g s n L gb cb ge ce bs es bg en W){c d:Nat}{row:Nat->Bool}(f:es[c]?=some d)(b:W.grownBy W' (some d))(q:Bl W' d L row):lQ w0 gw g s n L gb cb ge ce bs es bg (dV en c row) W':=by
 have l:=h.re c d f;have j:=h.lo d (List.mem_append_right _ (mg_ f));refine⟨h.be.grown b (lt_ j (ll_ (bP l))) (fun k e=>by cases e;exact j),bR h.b b (fun e=>dI h.b l d_ (oi_ e)),dG h.ob l d_ b,dG h.oe l d_ b,h.lb,h.le,fun i k a=>bR (h.rb i k a) b (fun e=>h.ab3 a f (oi_ e)),fun i k a=>?_,h.nd,h.lo⟩;by_cases e:i=c
 .subst e;rw[f]at a;cases a;rw[wz];exact q
 .rw [Bi e];exact bR (h.re i k a) b (fun p=>h.neE a f e (oi_ p))
end
def afC(w0:W_)(gw g:Nat)(s:Y_)(n L gb cb ge ce:Nat)(bs es:List Nat)(bg en:Nat->Nat->Bool)(r:Bool)(e:Ending)(w':W_):Prop:=e=.returned (.bool r)/\lQ w0 gw g s n L gb cb ge ce bs es bg en w'
theorem aaG(B0 g aS:Nat)(s0 s:Y_)(ns:List aF)(vn vl:V_)(S down:Int)(w0:W_)(gw n L gb cb ge ce:Nat)(bs es:List Nat)(bg en:Nat->Nat->Bool)(i:Nat)(y:aF)(w:W_)(hd:Dr B0 g s0 aS ns vn vl S down w0)(hy:ns[i]?=some y)(hn:ns.length=n)(hk:Pu.NdK n i y)(hL:L<=100000)(_hN:n<=100000)(h:lQ w0 gw g s n L gb cb ge ce bs es bg en w) :
  Calls prog 152 #[p_ gw,I_ i] w (afC w0 gw g s n L gb cb ge ce bs es (Ea y i bg en) en (Pu.BQ L y i bg en)):=by
 have D:=hd.below h.be;obtain⟨gn,cap,rfl,hr⟩:=D.get hy;have hi:=hk.lt;have ii0:=jJ i;have ii1:(i:Int)<n:=o_;have e:=bQ 0 h.b rfl;have c:=bQ 1 D.rb rfl;rw[hn]at c;have f:=nA;have b:=bL hr;have a:=bL (lD w y);have J:=bL (oz w y);have C:=bL (h.below a.o);have HK:=bL hk;clear hr hd hy h D hk hn;go_in;go_upto_region 2 with (first | (refine wl_ rfl 181 (.tmp 16) rfl gn (i*259) rfl _ _ b.o underlying181 rfl iH ?_) | (refine ws_ rfl 181 (.tmp 5) (.tmp 17) rfl w.heap.size 0 (dS y).toArray rfl rfl (jC _) (nk _) (oc_ (jf _)) ?_));clear e c f b a;rw[show (w.alloc (c_ zm.toArray 181)).setCells w.heap.size 0 (dS y)=mJ w y from rfl];generalize mJ w y=z at *;generalize w.heap.size=k at *;by_cases r:y.kind=1
 .have a:=r;have K:z.cell? (a_ k 0)=some (I_ 1):=by have:=bN (j:=0) J.o rfl;rw[a]at this;exact this
  have H:Hid (Ea y i bg en=bg):=by show _=_;unfold Ea;rw[if_pos r]
  have I:Hid (Pu.BQ L y i bg en=false):=by show _=_;unfold Pu.BQ;rw[if_pos r]
  clear r a;go_wp2;go_ret;exact⟨by rw[I.o];rfl,by rw[H.o];exact C.o⟩
 .have hl:=HK.o.kl r;have ll0:(0:Int)<=y.l:=o_;have ll1:(y.l:Int)<n:=o_;have Nil:Hid (i≠y.l):=by show _≠_;omega
  have Nli:Hid (y.l≠i):=by show _≠_;omega
  obtain⟨X,Y⟩:∃x,Hid (bs[i]?=some x):=⟨_,gg_ (by rw[C.o.lb];omega)⟩;obtain⟨B,q⟩:∃x,Hid (bs[y.l]?=some x):=⟨_,gg_ (by rw[C.o.lb];omega)⟩;obtain⟨wD,xG⟩:∃x,Hid (es[i]?=some x):=⟨_,gg_ (by rw[C.o.le];omega)⟩;obtain⟨U,T⟩:∃x,Hid (es[y.l]?=some x):=⟨_,gg_ (by rw[C.o.le];omega)⟩;rcases HK.o.kd with a | a | a | a | a | a
  .exact absurd a r
  have hr:=HK.o.kr (.inl a);have rr0:(0:Int)<=y.r:=o_;have rr1:(y.r:Int)<n:=o_;have Z:Hid (i≠y.r):=by show _≠_;omega
  have Nri:Hid (y.r≠i):=by show _≠_;omega
  obtain⟨A,G⟩:∃x,Hid (bs[y.r]?=some x):=⟨_,gg_ (by rw[C.o.lb];omega)⟩;obtain⟨ger,Qer⟩:∃x,Hid (es[y.r]?=some x):=⟨_,gg_ (by rw[C.o.le];omega)⟩;have K:z.cell? (a_ k 0)=some (I_ 2):=by have:=bN (j:=0) J.o rfl;rw[a]at this;exact this
  have H:Hid (Ea y i bg en=(dV (dV bg y.l (iI (bg y.l) (bg i))) y.r (iI ((dV bg y.l (iI (bg y.l) (bg i))) y.r) (en y.l)))):=by show _=_;unfold Ea;rw[if_neg r,if_pos a]
  have I:Hid (Pu.BQ L y i bg en=(Pu.dY L (bg y.l) (bg i) || Pu.dY L ((dV bg y.l (iI (bg y.l) (bg i))) y.r) (en y.l))):=by show _=_;unfold Pu.BQ;rw[if_neg r,if_pos a]
  rotate_left;have hr:=HK.o.kr (.inr a);have rr0:(0:Int)<=y.r:=o_;have rr1:(y.r:Int)<n:=o_;have Z:Hid (i≠y.r):=by show _≠_;omega
  have Nri:Hid (y.r≠i):=by show _≠_;omega
  obtain⟨A,G⟩:∃x,Hid (bs[y.r]?=some x):=⟨_,gg_ (by rw[C.o.lb];omega)⟩;obtain⟨ger,Qer⟩:∃x,Hid (es[y.r]?=some x):=⟨_,gg_ (by rw[C.o.le];omega)⟩;have K:z.cell? (a_ k 0)=some (I_ 3):=by have:=bN (j:=0) J.o rfl;rw[a]at this;exact this
  have H:Hid (Ea y i bg en=(dV (dV bg y.l (iI (bg y.l) (bg i))) y.r (iI ((dV bg y.l (iI (bg y.l) (bg i))) y.r) ((dV bg y.l (iI (bg y.l) (bg i))) i)))):=by show _=_;unfold Ea;rw[if_neg r,if_neg o_,if_pos a]
  have I:Hid (Pu.BQ L y i bg en=(Pu.dY L (bg y.l) (bg i) || Pu.dY L ((dV bg y.l (iI (bg y.l) (bg i))) y.r) ((dV bg y.l (iI (bg y.l) (bg i))) i))):=by show _=_;unfold Pu.BQ;rw[if_neg r,if_neg o_,if_pos a]
  rotate_left;have K:z.cell? (a_ k 0)=some (I_ 4):=by have:=bN (j:=0) J.o rfl;rw[a]at this;exact this
  have H:Hid (Ea y i bg en=(dV (dV bg y.l (iI (bg y.l) (bg i))) y.l (iI ((dV bg y.l (iI (bg y.l) (bg i))) y.l) (en y.l)))):=by show _=_;unfold Ea;rw[if_neg r,if_neg o_,if_neg o_,if_neg o_]
  have I:Hid (Pu.BQ L y i bg en=(Pu.dY L (bg y.l) (bg i) || Pu.dY L ((dV bg y.l (iI (bg y.l) (bg i))) y.l) (en y.l))):=by show _=_;unfold Pu.BQ;rw[if_neg r,if_neg o_,if_neg o_,if_neg o_]
  rotate_left;have K:z.cell? (a_ k 0)=some (I_ 5):=by have:=bN (j:=0) J.o rfl;rw[a]at this;exact this
  have H:Hid (Ea y i bg en=(dV (dV bg y.l (iI (bg y.l) (bg i))) y.l (iI ((dV bg y.l (iI (bg y.l) (bg i))) y.l) (en y.l)))):=by show _=_;unfold Ea;rw[if_neg r,if_neg o_,if_neg o_,if_neg o_]
  have I:Hid (Pu.BQ L y i bg en=(Pu.dY L (bg y.l) (bg i) || Pu.dY L ((dV bg y.l (iI (bg y.l) (bg i))) y.l) (en y.l))):=by show _=_;unfold Pu.BQ;rw[if_neg r,if_neg o_,if_neg o_,if_neg o_]
  rotate_left;have K:z.cell? (a_ k 0)=some (I_ 6):=by have:=bN (j:=0) J.o rfl;rw[a]at this;exact this
  have H:Hid (Ea y i bg en=(dV bg y.l (iI (bg y.l) (bg i)))):=by show _=_;unfold Ea;rw[if_neg r,if_neg o_,if_neg o_,if_pos a]
  have I:Hid (Pu.BQ L y i bg en=Pu.dY L (bg y.l) (bg i)):=by show _=_;unfold Pu.BQ;rw[if_neg r,if_neg o_,if_neg o_,if_pos a]
  rotate_left;all_goals
   have D:Hid (∀(b u:Nat->Nat->Bool) (V:W_),lQ w0 gw g s n L gb cb ge ce bs es b u V->dh V k 181 (dS y)->V.cell? (a_ gw 2)=some (s_ gb n cb)/\V.cell? (a_ k 1)=some (I_ y.l)/\V.cell? (a_ gb (y.l))=some (s_ B L L)/\V.cell? (a_ gb i)=some (s_ X L L)):=fun b u V c t=>⟨bN (j:=2) c.b rfl,bN (j:=1) t rfl,bV c.ob (fH q.o),bV c.ob (fH Y.o)⟩;have b:=bL (C.o.below (Below.drew (Br_ z.heap.size z)));have l:=bL (bO J.o (Below.drew (Br_ z.heap.size z)) (bP J.o));have u:Hid (∀V,z.drew.grownBy V (some B)->Bl V B L (iI (bg y.l) (bg i))->lQ w0 gw g s n L gb cb ge ce bs es (dV bg y.l (iI (bg y.l) (bg i))) en V):=fun V c t=>b.o.xV q.o c t;have t:Hid (∀V,z.drew.grownBy V (some B)->dh V k 181 (dS y)):=fun V c=>bR l.o c (fun e=>dI l.o (b.o.rb _ _ q.o) d_ (oi_ e));have c:=bL (mD B X L (bg y.l) (bg i) z.drew (b.o.rb _ _ q.o) (b.o.rb _ _ Y.o) (b.o.neB Y.o q.o Nil.o) hL);have E:=D.o _ _ _ b.o l.o;have KK:=bL a;clear r a C J;go_wp2_with fail;go_region_held3 (fun f=>f.cell? (a_ gw 2)=some (s_ gb n cb)/\f.cell? (a_ k 1)=some (I_ y.l)/\f.cell? (a_ gb (y.l))=some (s_ B L L)/\f.cell? (a_ gb i)=some (s_ X L L)) (first | assumption | exact D.o _ _ _ (u.o _ p d) (t.o _ p)) (first | (go_at_call 159;refine c.o.mono ?_;rintro e f ⟨rfl,p,d⟩));have Q:=bL (u.o _ p d);have v:=bL (t.o _ p);clear p d E D b l u t c;generalize f=l at *;have a:=KK.o
  .have N:l.cell? (a_ k 0)=some (I_ 2):=by have:=bN (j:=0) v.o rfl;rw[a]at this;exact this
   have D:Hid (∀(b u:Nat->Nat->Bool) (V:W_),lQ w0 gw g s n L gb cb ge ce bs es b u V->dh V k 181 (dS y)->V.cell? (a_ gw 2)=some (s_ gb n cb)/\V.cell? (a_ gw 3)=some (s_ ge n ce)/\V.cell? (a_ k 2)=some (I_ y.r)/\V.cell? (a_ k 1)=some (I_ y.l)/\V.cell? (a_ gb (y.r))=some (s_ A L L)/\V.cell? (a_ ge (y.l))=some (s_ U L L)):=fun b u V c t=>⟨bN (j:=2) c.b rfl,bN (j:=3) c.b rfl,bN (j:=2) t rfl,bN (j:=1) t rfl,bV c.ob (fH G.o),bV c.oe (fH T.o)⟩;have b:=bL (Q.o.below (Below.drew (Br_ l.heap.size l)));have u:=bL (bO v.o (Below.drew (Br_ l.heap.size l)) (bP v.o));have E:Hid (∀V,l.drew.grownBy V (some A)->Bl V A L (iI ((dV bg y.l (iI (bg y.l) (bg i))) y.r) (en y.l))->lQ w0 gw g s n L gb cb ge ce bs es (dV (dV bg y.l (iI (bg y.l) (bg i))) y.r (iI ((dV bg y.l (iI (bg y.l) (bg i))) y.r) (en y.l))) en V):=fun V c t=>b.o.xV G.o c t;have t:Hid (∀V,l.drew.grownBy V (some A)->dh V k 181 (dS y)):=fun V c=>bR u.o c (fun e=>dI u.o (b.o.rb _ _ G.o) d_ (oi_ e));have O:=bL (mD A U L ((dV bg y.l (iI (bg y.l) (bg i))) y.r) (en y.l) l.drew (b.o.rb _ _ G.o) (b.o.re _ _ T.o) (fun e=>b.o.ab3 G.o T.o e.symm) hL);have F:=D.o _ _ _ b.o u.o;clear a K Q v;generalize Pu.dY L (bg y.l) (bg i)=R at *;go_wp2_with fail;go_region_held3 (fun f=>f.cell? (a_ gw 2)=some (s_ gb n cb)/\f.cell? (a_ gw 3)=some (s_ ge n ce)/\f.cell? (a_ k 2)=some (I_ y.r)/\f.cell? (a_ k 1)=some (I_ y.l)/\f.cell? (a_ gb (y.r))=some (s_ A L L)/\f.cell? (a_ ge (y.l))=some (s_ U L L)) (first | assumption | exact D.o _ _ _ (E.o _ p d) (t.o _ p)) (first | (go_at_call 159;refine O.o.mono ?_;rintro e f ⟨rfl,p,d⟩));have c:=bL (E.o _ p d);have V:=bL (t.o _ p);clear p d F D b u E t O;generalize f=b at *;generalize Pu.dY L ((dV bg y.l (iI (bg y.l) (bg i))) y.r) (en y.l)=t at *;cases R with
   | true=>?_
   | false=>?_
   all_goals
    go_wp2;go_ret;exact⟨by rw[I.o];rfl,by rw[H.o];exact c.o⟩
  .have N:l.cell? (a_ k 0)=some (I_ 3):=by have:=bN (j:=0) v.o rfl;rw[a]at this;exact this
   have D:Hid (∀(b u:Nat->Nat->Bool) (V:W_),lQ w0 gw g s n L gb cb ge ce bs es b u V->dh V k 181 (dS y)->V.cell? (a_ gw 2)=some (s_ gb n cb)/\V.cell? (a_ k 2)=some (I_ y.r)/\V.cell? (a_ gb (y.r))=some (s_ A L L)/\V.cell? (a_ gb i)=some (s_ X L L)):=fun b u V c t=>⟨bN (j:=2) c.b rfl,bN (j:=2) t rfl,bV c.ob (fH G.o),bV c.ob (fH Y.o)⟩;have b:=bL (Q.o.below (Below.drew (Br_ l.heap.size l)));have u:=bL (bO v.o (Below.drew (Br_ l.heap.size l)) (bP v.o));have E:Hid (∀V,l.drew.grownBy V (some A)->Bl V A L (iI ((dV bg y.l (iI (bg y.l) (bg i))) y.r) ((dV bg y.l (iI (bg y.l) (bg i))) i))->lQ w0 gw g s n L gb cb ge ce bs es (dV (dV bg y.l (iI (bg y.l) (bg i))) y.r (iI ((dV bg y.l (iI (bg y.l) (bg i))) y.r) ((dV bg y.l (iI (bg y.l) (bg i))) i))) en V):=fun V c t=>b.o.xV G.o c t;have t:Hid (∀V,l.drew.grownBy V (some A)->dh V k 181 (dS y)):=fun V c=>bR u.o c (fun e=>dI u.o (b.o.rb _ _ G.o) d_ (oi_ e));have O:=bL (mD A X L ((dV bg y.l (iI (bg y.l) (bg i))) y.r) ((dV bg y.l (iI (bg y.l) (bg i))) i) l.drew (b.o.rb _ _ G.o) (b.o.rb _ _ Y.o) (b.o.neB Y.o G.o Z.o) hL);have F:=D.o _ _ _ b.o u.o;clear a K Q v;generalize Pu.dY L (bg y.l) (bg i)=R at *;go_wp2_with fail;go_region_held3 (fun f=>f.cell? (a_ gw 2)=some (s_ gb n cb)/\f.cell? (a_ k 2)=some (I_ y.r)/\f.cell? (a_ gb (y.r))=some (s_ A L L)/\f.cell? (a_ gb i)=some (s_ X L L)) (first | assumption | exact D.o _ _ _ (E.o _ p d) (t.o _ p)) (first | (go_at_call 159;refine O.o.mono ?_;rintro e f ⟨rfl,p,d⟩));have c:=bL (E.o _ p d);have V:=bL (t.o _ p);clear p d F D b u E t O;generalize f=b at *;generalize Pu.dY L ((dV bg y.l (iI (bg y.l) (bg i))) y.r) ((dV bg y.l (iI (bg y.l) (bg i))) i)=t at *;cases R with
   | true=>?_
   | false=>?_
   all_goals
    go_wp2;go_ret;exact⟨by rw[I.o];rfl,by rw[H.o];exact c.o⟩
  have N:l.cell? (a_ k 0)=some (I_ 4):=by have:=bN (j:=0) v.o rfl;rw[a]at this;exact this
  rotate_left;have N:l.cell? (a_ k 0)=some (I_ 5):=by have:=bN (j:=0) v.o rfl;rw[a]at this;exact this
  rotate_left
  .have N:l.cell? (a_ k 0)=some (I_ 6):=by have:=bN (j:=0) v.o rfl;rw[a]at this;exact this
   clear a K;generalize Pu.dY L (bg y.l) (bg i)=R at *;cases R with
   | true=>?_
   | false=>?_
   all_goals
    go_wp2;go_ret;exact⟨by rw[I.o];rfl,by rw[H.o];exact Q.o⟩
  all_goals
   have D:Hid (∀(b u:Nat->Nat->Bool) (V:W_),lQ w0 gw g s n L gb cb ge ce bs es b u V->dh V k 181 (dS y)->V.cell? (a_ gw 2)=some (s_ gb n cb)/\V.cell? (a_ gw 3)=some (s_ ge n ce)/\V.cell? (a_ k 1)=some (I_ y.l)/\V.cell? (a_ gb (y.l))=some (s_ B L L)/\V.cell? (a_ ge (y.l))=some (s_ U L L)):=fun b u V c t=>⟨bN (j:=2) c.b rfl,bN (j:=3) c.b rfl,bN (j:=1) t rfl,bV c.ob (fH q.o),bV c.oe (fH T.o)⟩;have b:=bL (Q.o.below (Below.drew (Br_ l.heap.size l)));have u:=bL (bO v.o (Below.drew (Br_ l.heap.size l)) (bP v.o));have E:Hid (∀V,l.drew.grownBy V (some B)->Bl V B L (iI ((dV bg y.l (iI (bg y.l) (bg i))) y.l) (en y.l))->lQ w0 gw g s n L gb cb ge ce bs es (dV (dV bg y.l (iI (bg y.l) (bg i))) y.l (iI ((dV bg y.l (iI (bg y.l) (bg i))) y.l) (en y.l))) en V):=fun V c t=>b.o.xV q.o c t;have t:Hid (∀V,l.drew.grownBy V (some B)->dh V k 181 (dS y)):=fun V c=>bR u.o c (fun e=>dI u.o (b.o.rb _ _ q.o) d_ (oi_ e));have O:=bL (mD B U L ((dV bg y.l (iI (bg y.l) (bg i))) y.l) (en y.l) l.drew (b.o.rb _ _ q.o) (b.o.re _ _ T.o) (fun e=>b.o.ab3 q.o T.o e.symm) hL);have F:=D.o _ _ _ b.o u.o;clear a K Q v;generalize Pu.dY L (bg y.l) (bg i)=R at *;go_wp2_with fail;go_region_held3 (fun f=>f.cell? (a_ gw 2)=some (s_ gb n cb)/\f.cell? (a_ gw 3)=some (s_ ge n ce)/\f.cell? (a_ k 1)=some (I_ y.l)/\f.cell? (a_ gb (y.l))=some (s_ B L L)/\f.cell? (a_ ge (y.l))=some (s_ U L L)) (first | assumption | exact D.o _ _ _ (E.o _ p d) (t.o _ p)) (first | (go_at_call 159;refine O.o.mono ?_;rintro e f ⟨rfl,p,d⟩));have c:=bL (E.o _ p d);have V:=bL (t.o _ p);clear p d F D b u E t O;generalize f=b at *;generalize Pu.dY L ((dV bg y.l (iI (bg y.l) (bg i))) y.l) (en y.l)=t at *;cases R with
   | true=>?_
   | false=>?_
   all_goals
    go_wp2;go_ret;exact⟨by rw[I.o];rfl,by rw[H.o];exact c.o⟩
end Go.Proofs.YtmccnmgaoppogabGreat
