import Derived.Test.YtmccnmgaoppogaaGreatKav
namespace Go.Proofs.YtmccnmgaoppogaaGreat
open Pu
set_option linter.all false
set_option maxRecDepth 100000
set_option maxHeartbeats 8000000
open Go.RowKit
structure kL (w0:W_) (gw g:Nat) (s:Y_) (n L gb cb ge ce:Nat) (bs es:List Nat) (bg en:Nat->Nat->Bool) (W:W_):Prop where
 be:B_ w0 W
 b:dh W gw 268 [p_ g,.string s,s_ gb n cb,s_ ge n ce]
 ob:W.ownsRow w0.heap.size 203 1 (s_ gb n cb) n (mX L bs)
 oe:W.ownsRow w0.heap.size 203 1 (s_ ge n ce) n (mX L es)
 lb:bs.length=n
 le:es.length=n
 rb:∀i g,bs[i]?=some g->Bl W g L (bg i)
 re:∀i g,es[i]?=some g->Bl W g L (en i)
 nd:(bs++es).Nodup
 lo:∀g∈bs++es,w0.heap.size<=g
section
variable {w0:W_} {gw g:Nat} {s:Y_} {n L gb cb ge ce:Nat} {bs es:List Nat} {bg en:Nat->Nat->Bool} {W W':W_}
theorem kL.below (h:kL w0 gw g s n L gb cb ge ce bs es bg en W) (hb:B_ W W'):kL w0 gw g s n L gb cb ge ce bs es bg en W':=
 ⟨iT h.be hb,bN h.b hb (bO h.b),bU h.ob hb di,bU h.oe hb di,h.lb,h.le,fun i g e=>bN (h.rb i g e) hb (bO (h.rb i g e)),fun i g e=>bN (h.re i g e) hb (bO (h.re i g e)),h.nd,h.lo⟩
theorem kL.neB (h:kL w0 gw g s n L gb cb ge ce bs es bg en W) {i j gi gj:Nat} (hi:bs[i]?=some gi) (hj:bs[j]?=some gj) (ne:i≠j):gi≠gj:=by intro e;subst e;have h1:=ge_.1 hi;have h2:=ge_.1 hj;exact ne ((List.getElem_inj (h₀:=h1.1) (h₁:=h2.1) (List.nodup_append.1 h.nd).1).1 (h1.2.trans h2.2.symm))
theorem kL.neE (h:kL w0 gw g s n L gb cb ge ce bs es bg en W) {i j gi gj:Nat} (hi:es[i]?=some gi) (hj:es[j]?=some gj) (ne:i≠j):gi≠gj:=by intro e;subst e;have h1:=ge_.1 hi;have h2:=ge_.1 hj;exact ne ((List.getElem_inj (h₀:=h1.1) (h₁:=h2.1) (List.nodup_append.1 h.nd).2.1).1 (h1.2.trans h2.2.symm))
theorem kL.ZG (h:kL w0 gw g s n L gb cb ge ce bs es bg en W) {i j gi gj:Nat} (hi:bs[i]?=some gi) (hj:es[j]?=some gj):gi≠gj:=
 (List.nodup_append.1 h.nd).2.2 gi (mg_ hi) gj (mg_ hj)
theorem kL.wS (h:kL w0 gw g s n L gb cb ge ce bs es bg en W) {c gc:Nat} {row:Nat->Bool} (hc:bs[c]?=some gc) (hg:W.grownBy W' (some gc)) (hr:Bl W' gc L row):kL w0 gw g s n L gb cb ge ce bs es (dO bg c row) en W':=by
 have h0:=h.rb c gc hc;have hlo:=h.lo gc (List.mem_append_left _ (mg_ hc));refine⟨h.be.grown hg (lt_ hlo (ll_ (bO h0))) (fun k e=>by cases e;exact hlo),bQ h.b hg (fun e=>dD h.b h0 (by decide) (oi_ e)),dA h.ob h0 (by decide) hg,dA h.oe h0 (by decide) hg,h.lb,h.le,fun i gi hi=>?_,fun i gi hi=>bQ (h.re i gi hi) hg (fun e=>h.ZG hc hi (oi_ e).symm),h.nd,h.lo⟩;by_cases e:i=c
 .subst e;rw [hc] at hi;cases hi;rw [uL];exact hr
 .rw [zZ e];exact bQ (h.rb i gi hi) hg (fun e'=>h.neB hi hc e (oi_ e'))
theorem kL.sU (h:kL w0 gw g s n L gb cb ge ce bs es bg en W) {c gc:Nat} {row:Nat->Bool} (hc:es[c]?=some gc) (hg:W.grownBy W' (some gc)) (hr:Bl W' gc L row):kL w0 gw g s n L gb cb ge ce bs es bg (dO en c row) W':=by
 have h0:=h.re c gc hc;have hlo:=h.lo gc (List.mem_append_right _ (mg_ hc));refine⟨h.be.grown hg (lt_ hlo (ll_ (bO h0))) (fun k e=>by cases e;exact hlo),bQ h.b hg (fun e=>dD h.b h0 (by decide) (oi_ e)),dA h.ob h0 (by decide) hg,dA h.oe h0 (by decide) hg,h.lb,h.le,fun i gi hi=>bQ (h.rb i gi hi) hg (fun e=>h.ZG hi hc (oi_ e)),fun i gi hi=>?_,h.nd,h.lo⟩;by_cases e:i=c
 .subst e;rw [hc] at hi;cases hi;rw [uL];exact hr
 .rw [zZ e];exact bQ (h.re i gi hi) hg (fun e'=>h.neE hi hc e (oi_ e'))
end
def ade (w0:W_) (gw g:Nat) (s:Y_) (n L gb cb ge ce:Nat) (bs es:List Nat) (bg en:Nat->Nat->Bool) (r:Bool) (e:Ending) (w':W_):Prop:=e=.returned (.bool r)/\kL w0 gw g s n L gb cb ge ce bs es bg en w'
theorem Yp (B0 g aS:Nat) (s0 s:Y_) (ns:List aF) (vn vl:V_) (modes down:Int) (w0:W_) (gw n L gb cb ge ce:Nat) (bs es:List Nat) (bg en:Nat->Nat->Bool) (i:Nat) (y:aF) (w:W_) (hd:Dr B0 g s0 aS ns vn vl modes down w0) (hy:ns[i]?=some y) (hn:ns.length=n) (hk:Pu.NdK n i y) (hL:L<=100000) (_hN:n<=100000) (h:kL w0 gw g s n L gb cb ge ce bs es bg en w) :
  C_ 159 #[p_ gw,I_ i] w (ade w0 gw g s n L gb cb ge ce bs es (Ck y i bg en) en (Pu.Aq L y i bg en)):=by
 have D:=hd.below h.be;obtain⟨gn,cap,rfl,hr⟩:=D.get hy;have hi:=hk.lt;have ii0:=jg i;have ii1:(i:Int)<n:=by omega
 have c0:=bP 0 h.b rfl;have c1:=bP 1 D.rb rfl;rw [hn] at c1;have zv:=mg;have HR:=bK hr;have B1:=bK (kE w y);have BX:=bK (nD w y);have H1:=bK (h.below B1.o);have HK:=bK hk;clear hr hd hy h D hk hn;go_enter Tryz.func159,Tryz.ntmps159;go_upto_region 2 with (first | (refine wl_ rfl 161 (.tmp 16) rfl gn (i*259) rfl _ _ HR.o Tryz.underlying161 rfl iq ?_) | (refine ws_ rfl 161 (.tmp 5) (.tmp 17) rfl w.heap.size 0 (dN y).toArray rfl rfl (iY _) (lY _) (oc_ (iO _)) ?_))
 clear c0 c1 zv HR B1;rw [show (w.alloc (c_ xX.toArray 161)).setCells w.heap.size 0 (dN y)=lH w y from rfl];generalize lH w y=W1 at *;generalize w.heap.size=gx at *;by_cases k1:y.kind=1
 .have hkk:=k1;have y0:W1.cell? (a_ gx 0)=some (I_ 1):=by have:=bM (j:=0) BX.o rfl;rw [hkk] at this;exact this
  have E1:Hid (Ck y i bg en=bg):=by show _=_;unfold Ck;rw [if_pos k1]
  have E2:Hid (Pu.Aq L y i bg en=false):=by show _=_;unfold Pu.Aq;rw [if_pos k1]
  clear k1 hkk;go_wp2;go_ret;exact⟨by rw [E2.o];rfl,by rw [E1.o];exact H1.o⟩
 .have hl:=HK.o.kl k1;have ll0:(0:Int)<=y.l:=by omega
  have ll1:(y.l:Int)<n:=by omega
  have Nil:Hid (i≠y.l):=by show _≠_;omega
  have Nli:Hid (y.l≠i):=by show _≠_;omega
  obtain⟨UW,WV⟩:∃x,Hid (bs[i]?=some x):=⟨_,gg_ (by rw [H1.o.lb];omega)⟩;obtain⟨WZ,Qbl⟩:∃x,Hid (bs[y.l]?=some x):=⟨_,gg_ (by rw [H1.o.lb];omega)⟩;obtain⟨uM,wz⟩:∃x,Hid (es[i]?=some x):=⟨_,gg_ (by rw [H1.o.le];omega)⟩;obtain⟨OC,Ox⟩:∃x,Hid (es[y.l]?=some x):=⟨_,gg_ (by rw [H1.o.le];omega)⟩;rcases HK.o.kd with hkk | hkk | hkk | hkk | hkk | hkk
  .exact absurd hkk k1
  focus
   have hr:=HK.o.kr (.inl hkk);have rr0:(0:Int)<=y.r:=by omega
   have rr1:(y.r:Int)<n:=by omega
   have Nir:Hid (i≠y.r):=by show _≠_;omega
   have Nri:Hid (y.r≠i):=by show _≠_;omega
   obtain⟨UX,Xw⟩:∃x,Hid (bs[y.r]?=some x):=⟨_,gg_ (by rw [H1.o.lb];omega)⟩;obtain⟨ger,Qer⟩:∃x,Hid (es[y.r]?=some x):=⟨_,gg_ (by rw [H1.o.le];omega)⟩
   have y0:W1.cell? (a_ gx 0)=some (I_ 2):=by have:=bM (j:=0) BX.o rfl;rw [hkk] at this;exact this
   have E1:Hid (Ck y i bg en=(dO (dO bg y.l (iw (bg y.l) (bg i))) y.r (iw ((dO bg y.l (iw (bg y.l) (bg i))) y.r) (en y.l)))):=by show _=_;unfold Ck;rw [if_neg k1,if_pos hkk]
   have E2:Hid (Pu.Aq L y i bg en=(Pu.dQ L (bg y.l) (bg i) || Pu.dQ L ((dO bg y.l (iw (bg y.l) (bg i))) y.r) (en y.l))):=by show _=_;unfold Pu.Aq;rw [if_neg k1,if_pos hkk]
  rotate_left
  focus
   have hr:=HK.o.kr (.inr hkk);have rr0:(0:Int)<=y.r:=by omega
   have rr1:(y.r:Int)<n:=by omega
   have Nir:Hid (i≠y.r):=by show _≠_;omega
   have Nri:Hid (y.r≠i):=by show _≠_;omega
   obtain⟨UX,Xw⟩:∃x,Hid (bs[y.r]?=some x):=⟨_,gg_ (by rw [H1.o.lb];omega)⟩;obtain⟨ger,Qer⟩:∃x,Hid (es[y.r]?=some x):=⟨_,gg_ (by rw [H1.o.le];omega)⟩
   have y0:W1.cell? (a_ gx 0)=some (I_ 3):=by have:=bM (j:=0) BX.o rfl;rw [hkk] at this;exact this
   have E1:Hid (Ck y i bg en=(dO (dO bg y.l (iw (bg y.l) (bg i))) y.r (iw ((dO bg y.l (iw (bg y.l) (bg i))) y.r) ((dO bg y.l (iw (bg y.l) (bg i))) i)))):=by show _=_;unfold Ck;rw [if_neg k1,if_neg (by omega),if_pos hkk]
   have E2:Hid (Pu.Aq L y i bg en=(Pu.dQ L (bg y.l) (bg i) || Pu.dQ L ((dO bg y.l (iw (bg y.l) (bg i))) y.r) ((dO bg y.l (iw (bg y.l) (bg i))) i))):=by show _=_;unfold Pu.Aq;rw [if_neg k1,if_neg (by omega),if_pos hkk]
  rotate_left
  focus
   have y0:W1.cell? (a_ gx 0)=some (I_ 4):=by have:=bM (j:=0) BX.o rfl;rw [hkk] at this;exact this
   have E1:Hid (Ck y i bg en=(dO (dO bg y.l (iw (bg y.l) (bg i))) y.l (iw ((dO bg y.l (iw (bg y.l) (bg i))) y.l) (en y.l)))):=by show _=_;unfold Ck;rw [if_neg k1,if_neg (by omega),if_neg (by omega),if_neg (by omega)]
   have E2:Hid (Pu.Aq L y i bg en=(Pu.dQ L (bg y.l) (bg i) || Pu.dQ L ((dO bg y.l (iw (bg y.l) (bg i))) y.l) (en y.l))):=by show _=_;unfold Pu.Aq;rw [if_neg k1,if_neg (by omega),if_neg (by omega),if_neg (by omega)]
  rotate_left
  focus
   have y0:W1.cell? (a_ gx 0)=some (I_ 5):=by have:=bM (j:=0) BX.o rfl;rw [hkk] at this;exact this
   have E1:Hid (Ck y i bg en=(dO (dO bg y.l (iw (bg y.l) (bg i))) y.l (iw ((dO bg y.l (iw (bg y.l) (bg i))) y.l) (en y.l)))):=by show _=_;unfold Ck;rw [if_neg k1,if_neg (by omega),if_neg (by omega),if_neg (by omega)]
   have E2:Hid (Pu.Aq L y i bg en=(Pu.dQ L (bg y.l) (bg i) || Pu.dQ L ((dO bg y.l (iw (bg y.l) (bg i))) y.l) (en y.l))):=by show _=_;unfold Pu.Aq;rw [if_neg k1,if_neg (by omega),if_neg (by omega),if_neg (by omega)]
  rotate_left
  focus
   have y0:W1.cell? (a_ gx 0)=some (I_ 6):=by have:=bM (j:=0) BX.o rfl;rw [hkk] at this;exact this
   have E1:Hid (Ck y i bg en=(dO bg y.l (iw (bg y.l) (bg i)))):=by show _=_;unfold Ck;rw [if_neg k1,if_neg (by omega),if_neg (by omega),if_pos hkk]
   have E2:Hid (Pu.Aq L y i bg en=Pu.dQ L (bg y.l) (bg i)):=by show _=_;unfold Pu.Aq;rw [if_neg k1,if_neg (by omega),if_neg (by omega),if_pos hkk]
  rotate_left
  all_goals
   have Dh:Hid (∀(f1 f2:Nat->Nat->Bool) (V:W_),kL w0 gw g s n L gb cb ge ce bs es f1 f2 V->dh V gx 161 (dN y)->V.cell? (a_ gw 2)=some (s_ gb n cb)/\V.cell? (a_ gx 1)=some (I_ y.l)/\V.cell? (a_ gb (y.l))=some (s_ WZ L L)/\V.cell? (a_ gb i)=some (s_ UW L L)):=fun f1 f2 V h1 h2=>⟨bM (j:=2) h1.b rfl,bM (j:=1) h2 rfl,bT h1.ob (eY Qbl.o),bT h1.ob (eY WV.o)⟩
   have HD1:=bK (H1.o.below (Below.drew (Br_ W1.heap.size W1)));have za:=bK (bN BX.o (Below.drew (Br_ W1.heap.size W1)) (bO BX.o));have IW:Hid (∀V,W1.drew.grownBy V (some WZ)->Bl V WZ L (iw (bg y.l) (bg i))->kL w0 gw g s n L gb cb ge ce bs es (dO bg y.l (iw (bg y.l) (bg i))) en V):=fun V h1 h2=>HD1.o.wS Qbl.o h1 h2
   have IM:Hid (∀V,W1.drew.grownBy V (some WZ)->dh V gx 161 (dN y)):=fun V h1=>bQ za.o h1 (fun e=>dD za.o (HD1.o.rb _ _ Qbl.o) (by decide) (oi_ e))
   have Kw:=bK (kZ WZ UW L (bg y.l) (bg i) W1.drew (HD1.o.rb _ _ Qbl.o) (HD1.o.rb _ _ WV.o) (HD1.o.neB WV.o Qbl.o Nil.o) hL);have WW:=Dh.o _ _ _ HD1.o za.o;have KK:=bK hkk;clear k1 hkk H1 BX
   go_wp2_with fail
   go_region_held3 (fun w'=>w'.cell? (a_ gw 2)=some (s_ gb n cb)/\w'.cell? (a_ gx 1)=some (I_ y.l)/\w'.cell? (a_ gb (y.l))=some (s_ WZ L L)/\w'.cell? (a_ gb i)=some (s_ UW L L)) (first | assumption | exact Dh.o _ _ _ (IW.o _ hg hbl) (IM.o _ hg)) (first | (go_at_call 164;refine Kw.o.mono ?_;rintro e w' ⟨rfl,hg,hbl⟩))
   have Ai:=bK (IW.o _ hg hbl);have CE:=bK (IM.o _ hg);clear hg hbl WW Dh HD1 za IW IM Kw;generalize w'=V1 at *;have hkk:=KK.o
  .have y0':V1.cell? (a_ gx 0)=some (I_ 2):=by have:=bM (j:=0) CE.o rfl;rw [hkk] at this;exact this
   have IV:Hid (∀(f1 f2:Nat->Nat->Bool) (V:W_),kL w0 gw g s n L gb cb ge ce bs es f1 f2 V->dh V gx 161 (dN y)->V.cell? (a_ gw 2)=some (s_ gb n cb)/\V.cell? (a_ gw 3)=some (s_ ge n ce)/\V.cell? (a_ gx 2)=some (I_ y.r)/\V.cell? (a_ gx 1)=some (I_ y.l)/\V.cell? (a_ gb (y.r))=some (s_ UX L L)/\V.cell? (a_ ge (y.l))=some (s_ OC L L)):=fun f1 f2 V h1 h2=>⟨bM (j:=2) h1.b rfl,bM (j:=3) h1.b rfl,bM (j:=2) h2 rfl,bM (j:=1) h2 rfl,bT h1.ob (eY Xw.o),bT h1.oe (eY Ox.o)⟩
   have HD2:=bK (Ai.o.below (Below.drew (Br_ V1.heap.size V1)));have Cz:=bK (bN CE.o (Below.drew (Br_ V1.heap.size V1)) (bO CE.o));have IX:Hid (∀V,V1.drew.grownBy V (some UX)->Bl V UX L (iw ((dO bg y.l (iw (bg y.l) (bg i))) y.r) (en y.l))->kL w0 gw g s n L gb cb ge ce bs es (dO (dO bg y.l (iw (bg y.l) (bg i))) y.r (iw ((dO bg y.l (iw (bg y.l) (bg i))) y.r) (en y.l))) en V):=fun V h1 h2=>HD2.o.wS Xw.o h1 h2
   have IP:Hid (∀V,V1.drew.grownBy V (some UX)->dh V gx 161 (dN y)):=fun V h1=>bQ Cz.o h1 (fun e=>dD Cz.o (HD2.o.rb _ _ Xw.o) (by decide) (oi_ e))
   have Ky:=bK (kZ UX OC L ((dO bg y.l (iw (bg y.l) (bg i))) y.r) (en y.l) V1.drew (HD2.o.rb _ _ Xw.o) (HD2.o.re _ _ Ox.o) (fun e=>HD2.o.ZG Xw.o Ox.o e.symm) hL);have SS2:=IV.o _ _ _ HD2.o Cz.o;clear hkk y0 Ai CE;generalize Pu.dQ L (bg y.l) (bg i)=a1 at *
   go_wp2_with fail
   go_region_held3 (fun w'=>w'.cell? (a_ gw 2)=some (s_ gb n cb)/\w'.cell? (a_ gw 3)=some (s_ ge n ce)/\w'.cell? (a_ gx 2)=some (I_ y.r)/\w'.cell? (a_ gx 1)=some (I_ y.l)/\w'.cell? (a_ gb (y.r))=some (s_ UX L L)/\w'.cell? (a_ ge (y.l))=some (s_ OC L L)) (first | assumption | exact IV.o _ _ _ (IX.o _ hg hbl) (IP.o _ hg)) (first | (go_at_call 164;refine Ky.o.mono ?_;rintro e w' ⟨rfl,hg,hbl⟩))
   have HS2:=bK (IX.o _ hg hbl);have BX2:=bK (IP.o _ hg);clear hg hbl SS2 IV HD2 Cz IX IP Ky;generalize w'=V2 at *;generalize Pu.dQ L ((dO bg y.l (iw (bg y.l) (bg i))) y.r) (en y.l)=a2 at *
   cases a1 with
   | true=>?_
   | false=>?_
   all_goals
    go_wp2;go_ret;exact⟨by rw [E2.o];rfl,by rw [E1.o];exact HS2.o⟩
  .have y0':V1.cell? (a_ gx 0)=some (I_ 3):=by have:=bM (j:=0) CE.o rfl;rw [hkk] at this;exact this
   have IV:Hid (∀(f1 f2:Nat->Nat->Bool) (V:W_),kL w0 gw g s n L gb cb ge ce bs es f1 f2 V->dh V gx 161 (dN y)->V.cell? (a_ gw 2)=some (s_ gb n cb)/\V.cell? (a_ gx 2)=some (I_ y.r)/\V.cell? (a_ gb (y.r))=some (s_ UX L L)/\V.cell? (a_ gb i)=some (s_ UW L L)):=fun f1 f2 V h1 h2=>⟨bM (j:=2) h1.b rfl,bM (j:=2) h2 rfl,bT h1.ob (eY Xw.o),bT h1.ob (eY WV.o)⟩
   have HD2:=bK (Ai.o.below (Below.drew (Br_ V1.heap.size V1)));have Cz:=bK (bN CE.o (Below.drew (Br_ V1.heap.size V1)) (bO CE.o));have IX:Hid (∀V,V1.drew.grownBy V (some UX)->Bl V UX L (iw ((dO bg y.l (iw (bg y.l) (bg i))) y.r) ((dO bg y.l (iw (bg y.l) (bg i))) i))->kL w0 gw g s n L gb cb ge ce bs es (dO (dO bg y.l (iw (bg y.l) (bg i))) y.r (iw ((dO bg y.l (iw (bg y.l) (bg i))) y.r) ((dO bg y.l (iw (bg y.l) (bg i))) i))) en V):=fun V h1 h2=>HD2.o.wS Xw.o h1 h2
   have IP:Hid (∀V,V1.drew.grownBy V (some UX)->dh V gx 161 (dN y)):=fun V h1=>bQ Cz.o h1 (fun e=>dD Cz.o (HD2.o.rb _ _ Xw.o) (by decide) (oi_ e))
   have Ky:=bK (kZ UX UW L ((dO bg y.l (iw (bg y.l) (bg i))) y.r) ((dO bg y.l (iw (bg y.l) (bg i))) i) V1.drew (HD2.o.rb _ _ Xw.o) (HD2.o.rb _ _ WV.o) (HD2.o.neB WV.o Xw.o Nir.o) hL);have SS2:=IV.o _ _ _ HD2.o Cz.o;clear hkk y0 Ai CE;generalize Pu.dQ L (bg y.l) (bg i)=a1 at *
   go_wp2_with fail
   go_region_held3 (fun w'=>w'.cell? (a_ gw 2)=some (s_ gb n cb)/\w'.cell? (a_ gx 2)=some (I_ y.r)/\w'.cell? (a_ gb (y.r))=some (s_ UX L L)/\w'.cell? (a_ gb i)=some (s_ UW L L)) (first | assumption | exact IV.o _ _ _ (IX.o _ hg hbl) (IP.o _ hg)) (first | (go_at_call 164;refine Ky.o.mono ?_;rintro e w' ⟨rfl,hg,hbl⟩))
   have HS2:=bK (IX.o _ hg hbl);have BX2:=bK (IP.o _ hg);clear hg hbl SS2 IV HD2 Cz IX IP Ky;generalize w'=V2 at *;generalize Pu.dQ L ((dO bg y.l (iw (bg y.l) (bg i))) y.r) ((dO bg y.l (iw (bg y.l) (bg i))) i)=a2 at *
   cases a1 with
   | true=>?_
   | false=>?_
   all_goals
    go_wp2;go_ret;exact⟨by rw [E2.o];rfl,by rw [E1.o];exact HS2.o⟩
  focus
   have y0':V1.cell? (a_ gx 0)=some (I_ 4):=by have:=bM (j:=0) CE.o rfl;rw [hkk] at this;exact this
  rotate_left
  focus
   have y0':V1.cell? (a_ gx 0)=some (I_ 5):=by have:=bM (j:=0) CE.o rfl;rw [hkk] at this;exact this
  rotate_left
  .have y0':V1.cell? (a_ gx 0)=some (I_ 6):=by have:=bM (j:=0) CE.o rfl;rw [hkk] at this;exact this
   clear hkk y0;generalize Pu.dQ L (bg y.l) (bg i)=a1 at *
   cases a1 with
   | true=>?_
   | false=>?_
   all_goals
    go_wp2;go_ret;exact⟨by rw [E2.o];rfl,by rw [E1.o];exact Ai.o⟩
  all_goals
   have IV:Hid (∀(f1 f2:Nat->Nat->Bool) (V:W_),kL w0 gw g s n L gb cb ge ce bs es f1 f2 V->dh V gx 161 (dN y)->V.cell? (a_ gw 2)=some (s_ gb n cb)/\V.cell? (a_ gw 3)=some (s_ ge n ce)/\V.cell? (a_ gx 1)=some (I_ y.l)/\V.cell? (a_ gb (y.l))=some (s_ WZ L L)/\V.cell? (a_ ge (y.l))=some (s_ OC L L)):=fun f1 f2 V h1 h2=>⟨bM (j:=2) h1.b rfl,bM (j:=3) h1.b rfl,bM (j:=1) h2 rfl,bT h1.ob (eY Qbl.o),bT h1.oe (eY Ox.o)⟩
   have HD2:=bK (Ai.o.below (Below.drew (Br_ V1.heap.size V1)));have Cz:=bK (bN CE.o (Below.drew (Br_ V1.heap.size V1)) (bO CE.o));have IX:Hid (∀V,V1.drew.grownBy V (some WZ)->Bl V WZ L (iw ((dO bg y.l (iw (bg y.l) (bg i))) y.l) (en y.l))->kL w0 gw g s n L gb cb ge ce bs es (dO (dO bg y.l (iw (bg y.l) (bg i))) y.l (iw ((dO bg y.l (iw (bg y.l) (bg i))) y.l) (en y.l))) en V):=fun V h1 h2=>HD2.o.wS Qbl.o h1 h2
   have IP:Hid (∀V,V1.drew.grownBy V (some WZ)->dh V gx 161 (dN y)):=fun V h1=>bQ Cz.o h1 (fun e=>dD Cz.o (HD2.o.rb _ _ Qbl.o) (by decide) (oi_ e))
   have Ky:=bK (kZ WZ OC L ((dO bg y.l (iw (bg y.l) (bg i))) y.l) (en y.l) V1.drew (HD2.o.rb _ _ Qbl.o) (HD2.o.re _ _ Ox.o) (fun e=>HD2.o.ZG Qbl.o Ox.o e.symm) hL);have SS2:=IV.o _ _ _ HD2.o Cz.o;clear hkk y0 Ai CE;generalize Pu.dQ L (bg y.l) (bg i)=a1 at *
   go_wp2_with fail
   go_region_held3 (fun w'=>w'.cell? (a_ gw 2)=some (s_ gb n cb)/\w'.cell? (a_ gw 3)=some (s_ ge n ce)/\w'.cell? (a_ gx 1)=some (I_ y.l)/\w'.cell? (a_ gb (y.l))=some (s_ WZ L L)/\w'.cell? (a_ ge (y.l))=some (s_ OC L L)) (first | assumption | exact IV.o _ _ _ (IX.o _ hg hbl) (IP.o _ hg)) (first | (go_at_call 164;refine Ky.o.mono ?_;rintro e w' ⟨rfl,hg,hbl⟩))
   have HS2:=bK (IX.o _ hg hbl);have BX2:=bK (IP.o _ hg);clear hg hbl SS2 IV HD2 Cz IX IP Ky;generalize w'=V2 at *;generalize Pu.dQ L ((dO bg y.l (iw (bg y.l) (bg i))) y.l) (en y.l)=a2 at *
   cases a1 with
   | true=>?_
   | false=>?_
   all_goals
    go_wp2;go_ret;exact⟨by rw [E2.o];rfl,by rw [E1.o];exact HS2.o⟩
end Go.Proofs.YtmccnmgaoppogaaGreat
