import Derived.Test.YtmccnmgaoppogaaGreatX6
import Derived.Test.YtmccnmgaoppogaaGreatKax
namespace Go.Proofs.YtmccnmgaoppogaaGreat
open Pu
set_option linter.all false
set_option maxRecDepth 100000
set_option maxHeartbeats 8000000
open Go.RowKit
theorem ae7 (B0 g aS:Nat) (s0 s:Y_) (ns:List aF) (vn vl:V_) (modes down:Int) (w0:W_) (gw n L gb cb ge ce:Nat) (bs es:List Nat) (bg en:Nat->Nat->Bool) (i:Nat) (y:aF) (w:W_) (hd:Dr B0 g s0 aS ns vn vl modes down w0) (hy:ns[i]?=some y) (hn:ns.length=n) (hk:Pu.NdK n i y) (hL:L<=100000) (_hN:n<=100000) (h:kL w0 gw g s n L gb cb ge ce bs es bg en w) (hs:L=s.size+2) (hs2:s.size<=1000) :
  C_ 160 #[p_ gw,I_ i] w (ade w0 gw g s n L gb cb ge ce bs es bg (FT (qH s) y i bg en) (Pu.Ce L (qH s) y i bg en)):=by
 have D:=hd.below h.be;obtain⟨gn,cap,rfl,hr⟩:=D.get hy;have hi:=hk.lt;have ii0:=jg i;have ii1:(i:Int)<n:=by omega
 have c0:=bP 0 h.b rfl;have c1:=bP 1 D.rb rfl;rw [hn] at c1;have zv:=mg;have HR:=bK hr;have B1:=bK (kE w y);have BX:=bK (nD w y);have H1:=bK (h.below B1.o);have HK:=bK hk;have HZ:=bK hs;clear hr hd hy h D hk hn hs;go_enter Tryz.func160,Tryz.ntmps160;go_upto_region 2 with (first | (refine wl_ rfl 161 (.tmp 17) rfl gn (i*259) rfl _ _ HR.o Tryz.underlying161 rfl iq ?_) | (refine ws_ rfl 161 (.tmp 5) (.tmp 18) rfl w.heap.size 0 (dN y).toArray rfl rfl (iY _) (lY _) (oc_ (iO _)) ?_))
 clear c0 c1 zv HR B1;rw [show (w.alloc (c_ xX.toArray 161)).setCells w.heap.size 0 (dN y)=lH w y from rfl];generalize lH w y=W1 at *;generalize w.heap.size=gx at *
 obtain⟨UW,WV⟩:∃x,Hid (bs[i]?=some x):=⟨_,gg_ (by rw [H1.o.lb];omega)⟩
 obtain⟨uM,wz⟩:∃x,Hid (es[i]?=some x):=⟨_,gg_ (by rw [H1.o.le];omega)⟩
 by_cases k1:y.kind=1
 .have hkk:=k1;have y0:W1.cell? (a_ gx 0)=some (I_ 1):=by have:=bM (j:=0) BX.o rfl;rw [hkk] at this;exact this
  have E1:Hid (FT (qH s) y i bg en=dO en i (iw (en i) (zY y (qH s) (bg i)))):=by show _=_;unfold FT;rw [if_pos k1]
  have E2:Hid (Pu.Ce L (qH s) y i bg en=Pu.dQ L (en i) (zY y (qH s) (bg i))):=by show _=_;unfold Pu.Ce;rw [if_pos k1]
  have Dh:Hid (∀(V:W_),kL w0 gw g s n L gb cb ge ce bs es bg en V->dh V gx 161 (dN y)->V.rangeAt gx 0 (dN y)/\V.cell? (a_ gw 1)=some (.string s)/\V.cell? (a_ gw 2)=some (s_ gb n cb)/\V.cell? (a_ gb i)=some (s_ UW L L)):=fun V h1 h2=>⟨dZ h2,bM (j:=1) h1.b rfl,bM (j:=2) h1.b rfl,bT h1.ob (eY WV.o)⟩
  have HD1:=bK (H1.o.below (Below.drew (Br_ W1.heap.size W1)));have za:=bK (bN BX.o (Below.drew (Br_ W1.heap.size W1)) (bO BX.o));have Kw:=bK (Wv y s UW L (bg i) W1.drew (HD1.o.rb _ _ WV.o) HZ.o hs2);have WW:=Dh.o _ HD1.o za.o;clear k1 hkk H1 BX
  go_wp2_with fail
  refine wd_ (S:=fun w'=>w'.rangeAt gx 0 (dN y)/\w'.cell? (a_ gw 1)=some (.string s)/\w'.cell? (a_ gw 2)=some (s_ gb n cb)/\w'.cell? (a_ gb i)=some (s_ UW L L)) (by kernel_rfl) WW (fun dF=>?_);refine wpAnyH_take (i:=0) (v:=(.agg (dN y).toArray)) rfl (by kernel_rfl) (by kernel_rfl) (by kernel_rfl) (fun _ _ _ h=>h) (yieldsIf_load_mid (by rfl) 161 (.tmp 5) rfl gx 0 rfl (dN y) _ (fun _ hS=>hS.1) Tryz.underlying161 rfl (by rw [gI];exact iq)) (by assumption) ?_
  try simp only [gt_,cz_,Act.put,sb_,sz_,ss_]
  refine bW 1 ?_
  refine bW 2 ?_
  refine bW 3 ?_
  refine bW 4 ?_
  refine bW 5 ?_
  refine bW 6 ?_
  refine bW 7 ?_
  refine bW 8 ?_
  refine bW 9 ?_
  refine bW 10 ?_
  refine bW 11 ?_
  refine fq 12 (fun K hK=>?_)
  go_simp
  refine Kw.o.mono ?_
  clear Kw;rintro e w' ⟨gt,rfl,hb,hgt,hbl⟩;refine hK.out _ _ (Dh.o _ (HD1.o.below hb) (bN za.o hb (bO za.o))) (fun fV=>?_);clear hK K
  try simp only [nU,Act.put]
  refine bW 13 ?_
  refine wpAnyH_done (by kernel_rfl) ?_ _;have Ai:=bK (HD1.o.below hb);have NE1:Hid (gt≠uM):=fun e=>by have:=bO (HD1.o.re _ _ wz.o);omega
  have Ky:=bK (kZ uM gt L (en i) (zY y (qH s) (bg i)) w' (Ai.o.re _ _ wz.o) hbl NE1.o hL);have d3:=bP 3 Ai.o.b rfl;have d4:w'.cell? (a_ ge i)=some (s_ uM L L):=bT Ai.o.oe (eY wz.o);clear hb hbl hgt WW Dh HD1 za NE1 y0 dF fV
  go_wp2_with fail
  refine Ky.o.mono ?_
  clear Ky d3 d4;rintro e w2 ⟨rfl,hg,hr2⟩;have HS2:=bK (Ai.o.sU wz.o hg hr2);clear hg hr2 Ai;go_wp2;go_ret;exact⟨by rw [E2.o];rfl,by rw [E1.o];exact HS2.o⟩
 .have hl:=HK.o.kl k1;have ll0:(0:Int)<=y.l:=by omega
  have ll1:(y.l:Int)<n:=by omega
  have Nil:Hid (i≠y.l):=by show _≠_;omega
  have Nli:Hid (y.l≠i):=by show _≠_;omega
  obtain⟨OC,Ox⟩:∃x,Hid (es[y.l]?=some x):=⟨_,gg_ (by rw [H1.o.le];omega)⟩;rcases HK.o.kd with hkk | hkk | hkk | hkk | hkk | hkk
  .exact absurd hkk k1
  .have hr:=HK.o.kr (.inl hkk);have rr0:(0:Int)<=y.r:=by omega
   have rr1:(y.r:Int)<n:=by omega
   have Nir:Hid (i≠y.r):=by show _≠_;omega
   have Nri:Hid (y.r≠i):=by show _≠_;omega
   obtain⟨ger,Qer⟩:∃x,Hid (es[y.r]?=some x):=⟨_,gg_ (by rw [H1.o.le];omega)⟩
   have y0:W1.cell? (a_ gx 0)=some (I_ 2):=by have:=bM (j:=0) BX.o rfl;rw [hkk] at this;exact this
   have E1:Hid (FT (qH s) y i bg en=(dO en i (iw (en i) (en y.r)))):=by show _=_;unfold FT;rw [if_neg k1,if_pos hkk]
   have E2:Hid (Pu.Ce L (qH s) y i bg en=Pu.dQ L (en i) (en y.r)):=by show _=_;unfold Pu.Ce;rw [if_neg k1,if_pos hkk]
   have Dh:Hid (∀(f1 f2:Nat->Nat->Bool) (V:W_),kL w0 gw g s n L gb cb ge ce bs es f1 f2 V->dh V gx 161 (dN y)->V.cell? (a_ gw 3)=some (s_ ge n ce)/\V.cell? (a_ gx 2)=some (I_ y.r)/\V.cell? (a_ ge i)=some (s_ uM L L)/\V.cell? (a_ ge (y.r))=some (s_ ger L L)):=fun f1 f2 V h1 h2=>⟨bM (j:=3) h1.b rfl,bM (j:=2) h2 rfl,bT h1.oe (eY wz.o),bT h1.oe (eY Qer.o)⟩
   have HD1:=bK (H1.o.below (Below.drew (Br_ W1.heap.size W1)));have za:=bK (bN BX.o (Below.drew (Br_ W1.heap.size W1)) (bO BX.o));have IW:Hid (∀V,W1.drew.grownBy V (some uM)->Bl V uM L (iw (en i) (en y.r))->kL w0 gw g s n L gb cb ge ce bs es bg (dO en i (iw (en i) (en y.r))) V):=fun V h1 h2=>HD1.o.sU wz.o h1 h2
   have IM:Hid (∀V,W1.drew.grownBy V (some uM)->dh V gx 161 (dN y)):=fun V h1=>bQ za.o h1 (fun e=>dD za.o (HD1.o.re _ _ wz.o) (by decide) (oi_ e))
   have Kw:=bK (kZ uM ger L (en i) (en y.r) W1.drew (HD1.o.re _ _ wz.o) (HD1.o.re _ _ Qer.o) (HD1.o.neE Qer.o wz.o Nri.o) hL);have WW:=Dh.o _ _ _ HD1.o za.o;clear k1 hkk H1 BX
   go_wp2_with fail
   go_region_held3 (fun w'=>w'.cell? (a_ gw 3)=some (s_ ge n ce)/\w'.cell? (a_ gx 2)=some (I_ y.r)/\w'.cell? (a_ ge i)=some (s_ uM L L)/\w'.cell? (a_ ge (y.r))=some (s_ ger L L)) (first | assumption | exact Dh.o _ _ _ (IW.o _ hg hbl) (IM.o _ hg)) (first | (go_at_call 164;refine Kw.o.mono ?_;rintro e w' ⟨rfl,hg,hbl⟩))
   have Ai:=bK (IW.o _ hg hbl);have CE:=bK (IM.o _ hg);clear hg hbl WW Dh HD1 za IW IM Kw;generalize w'=V1 at *;clear y0;generalize Pu.dQ L (en i) (en y.r)=a1 at *;go_wp2;go_ret;exact⟨by rw [E2.o];rfl,by rw [E1.o];exact Ai.o⟩
  .have hr:=HK.o.kr (.inr hkk);have rr0:(0:Int)<=y.r:=by omega
   have rr1:(y.r:Int)<n:=by omega
   have Nir:Hid (i≠y.r):=by show _≠_;omega
   have Nri:Hid (y.r≠i):=by show _≠_;omega
   obtain⟨ger,Qer⟩:∃x,Hid (es[y.r]?=some x):=⟨_,gg_ (by rw [H1.o.le];omega)⟩
   have y0:W1.cell? (a_ gx 0)=some (I_ 3):=by have:=bM (j:=0) BX.o rfl;rw [hkk] at this;exact this
   have E1:Hid (FT (qH s) y i bg en=(dO (dO en i (iw (en i) (en y.r))) i (iw ((dO en i (iw (en i) (en y.r))) i) ((dO en i (iw (en i) (en y.r))) y.l)))):=by show _=_;unfold FT;rw [if_neg k1,if_neg (by omega),if_pos hkk]
   have E2:Hid (Pu.Ce L (qH s) y i bg en=(Pu.dQ L (en i) (en y.r) || Pu.dQ L ((dO en i (iw (en i) (en y.r))) i) ((dO en i (iw (en i) (en y.r))) y.l))):=by show _=_;unfold Pu.Ce;rw [if_neg k1,if_neg (by omega),if_pos hkk,if_pos hkk]
   have Dh:Hid (∀(f1 f2:Nat->Nat->Bool) (V:W_),kL w0 gw g s n L gb cb ge ce bs es f1 f2 V->dh V gx 161 (dN y)->V.cell? (a_ gw 3)=some (s_ ge n ce)/\V.cell? (a_ gx 2)=some (I_ y.r)/\V.cell? (a_ ge i)=some (s_ uM L L)/\V.cell? (a_ ge (y.r))=some (s_ ger L L)):=fun f1 f2 V h1 h2=>⟨bM (j:=3) h1.b rfl,bM (j:=2) h2 rfl,bT h1.oe (eY wz.o),bT h1.oe (eY Qer.o)⟩
   have HD1:=bK (H1.o.below (Below.drew (Br_ W1.heap.size W1)));have za:=bK (bN BX.o (Below.drew (Br_ W1.heap.size W1)) (bO BX.o));have IW:Hid (∀V,W1.drew.grownBy V (some uM)->Bl V uM L (iw (en i) (en y.r))->kL w0 gw g s n L gb cb ge ce bs es bg (dO en i (iw (en i) (en y.r))) V):=fun V h1 h2=>HD1.o.sU wz.o h1 h2
   have IM:Hid (∀V,W1.drew.grownBy V (some uM)->dh V gx 161 (dN y)):=fun V h1=>bQ za.o h1 (fun e=>dD za.o (HD1.o.re _ _ wz.o) (by decide) (oi_ e))
   have Kw:=bK (kZ uM ger L (en i) (en y.r) W1.drew (HD1.o.re _ _ wz.o) (HD1.o.re _ _ Qer.o) (HD1.o.neE Qer.o wz.o Nri.o) hL);have WW:=Dh.o _ _ _ HD1.o za.o;clear k1 hkk H1 BX
   go_wp2_with fail
   go_region_held3 (fun w'=>w'.cell? (a_ gw 3)=some (s_ ge n ce)/\w'.cell? (a_ gx 2)=some (I_ y.r)/\w'.cell? (a_ ge i)=some (s_ uM L L)/\w'.cell? (a_ ge (y.r))=some (s_ ger L L)) (first | assumption | exact Dh.o _ _ _ (IW.o _ hg hbl) (IM.o _ hg)) (first | (go_at_call 164;refine Kw.o.mono ?_;rintro e w' ⟨rfl,hg,hbl⟩))
   have Ai:=bK (IW.o _ hg hbl);have CE:=bK (IM.o _ hg);clear hg hbl WW Dh HD1 za IW IM Kw;generalize w'=V1 at *;have IV:Hid (∀(f1 f2:Nat->Nat->Bool) (V:W_),kL w0 gw g s n L gb cb ge ce bs es f1 f2 V->dh V gx 161 (dN y)->V.cell? (a_ gw 3)=some (s_ ge n ce)/\V.cell? (a_ gx 1)=some (I_ y.l)/\V.cell? (a_ ge i)=some (s_ uM L L)/\V.cell? (a_ ge (y.l))=some (s_ OC L L)):=fun f1 f2 V h1 h2=>⟨bM (j:=3) h1.b rfl,bM (j:=1) h2 rfl,bT h1.oe (eY wz.o),bT h1.oe (eY Ox.o)⟩
   have HD2:=bK (Ai.o.below (Below.drew (Br_ V1.heap.size V1)));have Cz:=bK (bN CE.o (Below.drew (Br_ V1.heap.size V1)) (bO CE.o));have IX:Hid (∀V,V1.drew.grownBy V (some uM)->Bl V uM L (iw ((dO en i (iw (en i) (en y.r))) i) ((dO en i (iw (en i) (en y.r))) y.l))->kL w0 gw g s n L gb cb ge ce bs es bg (dO (dO en i (iw (en i) (en y.r))) i (iw ((dO en i (iw (en i) (en y.r))) i) ((dO en i (iw (en i) (en y.r))) y.l))) V):=fun V h1 h2=>HD2.o.sU wz.o h1 h2
   have IP:Hid (∀V,V1.drew.grownBy V (some uM)->dh V gx 161 (dN y)):=fun V h1=>bQ Cz.o h1 (fun e=>dD Cz.o (HD2.o.re _ _ wz.o) (by decide) (oi_ e))
   have Ky:=bK (kZ uM OC L ((dO en i (iw (en i) (en y.r))) i) ((dO en i (iw (en i) (en y.r))) y.l) V1.drew (HD2.o.re _ _ wz.o) (HD2.o.re _ _ Ox.o) (HD2.o.neE Ox.o wz.o Nli.o) hL);have SS2:=IV.o _ _ _ HD2.o Cz.o;clear y0 Ai CE;generalize Pu.dQ L (en i) (en y.r)=a1 at *
   go_wp2_with fail
   go_region_held3 (fun w'=>w'.cell? (a_ gw 3)=some (s_ ge n ce)/\w'.cell? (a_ gx 1)=some (I_ y.l)/\w'.cell? (a_ ge i)=some (s_ uM L L)/\w'.cell? (a_ ge (y.l))=some (s_ OC L L)) (first | assumption | exact IV.o _ _ _ (IX.o _ hg hbl) (IP.o _ hg)) (first | (go_at_call 164;refine Ky.o.mono ?_;rintro e w' ⟨rfl,hg,hbl⟩))
   have HS2:=bK (IX.o _ hg hbl);have BX2:=bK (IP.o _ hg);clear hg hbl SS2 IV HD2 Cz IX IP Ky;generalize w'=V2 at *;generalize Pu.dQ L ((dO en i (iw (en i) (en y.r))) i) ((dO en i (iw (en i) (en y.r))) y.l)=a2 at *
   cases a1 with
   | true=>?_
   | false=>?_
   all_goals
    go_wp2;go_ret;exact⟨by rw [E2.o];rfl,by rw [E1.o];exact HS2.o⟩
  focus
   have y0:W1.cell? (a_ gx 0)=some (I_ 4):=by have:=bM (j:=0) BX.o rfl;rw [hkk] at this;exact this
  rotate_left
  .have y0:W1.cell? (a_ gx 0)=some (I_ 5):=by have:=bM (j:=0) BX.o rfl;rw [hkk] at this;exact this
   have E1:Hid (FT (qH s) y i bg en=(dO en i (iw (en i) (en y.l)))):=by show _=_;unfold FT;rw [if_neg k1,if_neg (by omega),if_neg (by omega),if_pos hkk]
   have E2:Hid (Pu.Ce L (qH s) y i bg en=(false || Pu.dQ L (en i) (en y.l))):=by show _=_;unfold Pu.Ce;rw [if_neg k1,if_neg (by omega),if_neg (by omega),if_pos hkk,if_neg (by omega),if_pos hkk]
   have Dh:Hid (∀(f1 f2:Nat->Nat->Bool) (V:W_),kL w0 gw g s n L gb cb ge ce bs es f1 f2 V->dh V gx 161 (dN y)->V.cell? (a_ gw 3)=some (s_ ge n ce)/\V.cell? (a_ gx 1)=some (I_ y.l)/\V.cell? (a_ ge i)=some (s_ uM L L)/\V.cell? (a_ ge (y.l))=some (s_ OC L L)):=fun f1 f2 V h1 h2=>⟨bM (j:=3) h1.b rfl,bM (j:=1) h2 rfl,bT h1.oe (eY wz.o),bT h1.oe (eY Ox.o)⟩
   have HD1:=bK (H1.o.below (Below.drew (Br_ W1.heap.size W1)));have za:=bK (bN BX.o (Below.drew (Br_ W1.heap.size W1)) (bO BX.o));have IW:Hid (∀V,W1.drew.grownBy V (some uM)->Bl V uM L (iw (en i) (en y.l))->kL w0 gw g s n L gb cb ge ce bs es bg (dO en i (iw (en i) (en y.l))) V):=fun V h1 h2=>HD1.o.sU wz.o h1 h2
   have IM:Hid (∀V,W1.drew.grownBy V (some uM)->dh V gx 161 (dN y)):=fun V h1=>bQ za.o h1 (fun e=>dD za.o (HD1.o.re _ _ wz.o) (by decide) (oi_ e))
   have Kw:=bK (kZ uM OC L (en i) (en y.l) W1.drew (HD1.o.re _ _ wz.o) (HD1.o.re _ _ Ox.o) (HD1.o.neE Ox.o wz.o Nli.o) hL);have WW:=Dh.o _ _ _ HD1.o za.o;clear k1 hkk H1 BX
   go_wp2_with fail
   go_region_held3 (fun w'=>w'.cell? (a_ gw 3)=some (s_ ge n ce)/\w'.cell? (a_ gx 1)=some (I_ y.l)/\w'.cell? (a_ ge i)=some (s_ uM L L)/\w'.cell? (a_ ge (y.l))=some (s_ OC L L)) (first | assumption | exact Dh.o _ _ _ (IW.o _ hg hbl) (IM.o _ hg)) (first | (go_at_call 164;refine Kw.o.mono ?_;rintro e w' ⟨rfl,hg,hbl⟩))
   have Ai:=bK (IW.o _ hg hbl);have CE:=bK (IM.o _ hg);clear hg hbl WW Dh HD1 za IW IM Kw;generalize w'=V1 at *;clear y0;generalize Pu.dQ L (en i) (en y.l)=a1 at *;go_wp2;go_ret;exact⟨by rw [E2.o];rfl,by rw [E1.o];exact Ai.o⟩
  focus
   have y0:W1.cell? (a_ gx 0)=some (I_ 6):=by have:=bM (j:=0) BX.o rfl;rw [hkk] at this;exact this
  all_goals
   have E1:Hid (FT (qH s) y i bg en=(dO (dO en i (iw (en i) (bg i))) i (iw ((dO en i (iw (en i) (bg i))) i) ((dO en i (iw (en i) (bg i))) y.l)))):=by show _=_;unfold FT;rw [if_neg k1,if_neg (by omega),if_neg (by omega),if_neg (by omega)]
   have E2:Hid (Pu.Ce L (qH s) y i bg en=(Pu.dQ L (en i) (bg i) || Pu.dQ L ((dO en i (iw (en i) (bg i))) i) ((dO en i (iw (en i) (bg i))) y.l))):=by show _=_;unfold Pu.Ce;rw [if_neg k1,if_neg (by omega),if_neg (by omega),if_neg (by omega),if_neg (by omega),if_neg (by omega)]
   have Dh:Hid (∀(f1 f2:Nat->Nat->Bool) (V:W_),kL w0 gw g s n L gb cb ge ce bs es f1 f2 V->dh V gx 161 (dN y)->V.cell? (a_ gw 3)=some (s_ ge n ce)/\V.cell? (a_ gw 2)=some (s_ gb n cb)/\V.cell? (a_ ge i)=some (s_ uM L L)/\V.cell? (a_ gb i)=some (s_ UW L L)):=fun f1 f2 V h1 h2=>⟨bM (j:=3) h1.b rfl,bM (j:=2) h1.b rfl,bT h1.oe (eY wz.o),bT h1.ob (eY WV.o)⟩
   have HD1:=bK (H1.o.below (Below.drew (Br_ W1.heap.size W1)));have za:=bK (bN BX.o (Below.drew (Br_ W1.heap.size W1)) (bO BX.o));have IW:Hid (∀V,W1.drew.grownBy V (some uM)->Bl V uM L (iw (en i) (bg i))->kL w0 gw g s n L gb cb ge ce bs es bg (dO en i (iw (en i) (bg i))) V):=fun V h1 h2=>HD1.o.sU wz.o h1 h2
   have IM:Hid (∀V,W1.drew.grownBy V (some uM)->dh V gx 161 (dN y)):=fun V h1=>bQ za.o h1 (fun e=>dD za.o (HD1.o.re _ _ wz.o) (by decide) (oi_ e))
   have Kw:=bK (kZ uM UW L (en i) (bg i) W1.drew (HD1.o.re _ _ wz.o) (HD1.o.rb _ _ WV.o) (HD1.o.ZG WV.o wz.o) hL);have WW:=Dh.o _ _ _ HD1.o za.o;clear k1 hkk H1 BX
   go_wp2_with fail
   go_region_held3 (fun w'=>w'.cell? (a_ gw 3)=some (s_ ge n ce)/\w'.cell? (a_ gw 2)=some (s_ gb n cb)/\w'.cell? (a_ ge i)=some (s_ uM L L)/\w'.cell? (a_ gb i)=some (s_ UW L L)) (first | assumption | exact Dh.o _ _ _ (IW.o _ hg hbl) (IM.o _ hg)) (first | (go_at_call 164;refine Kw.o.mono ?_;rintro e w' ⟨rfl,hg,hbl⟩))
   have Ai:=bK (IW.o _ hg hbl);have CE:=bK (IM.o _ hg);clear hg hbl WW Dh HD1 za IW IM Kw;generalize w'=V1 at *;have IV:Hid (∀(f1 f2:Nat->Nat->Bool) (V:W_),kL w0 gw g s n L gb cb ge ce bs es f1 f2 V->dh V gx 161 (dN y)->V.cell? (a_ gw 3)=some (s_ ge n ce)/\V.cell? (a_ gx 1)=some (I_ y.l)/\V.cell? (a_ ge i)=some (s_ uM L L)/\V.cell? (a_ ge (y.l))=some (s_ OC L L)):=fun f1 f2 V h1 h2=>⟨bM (j:=3) h1.b rfl,bM (j:=1) h2 rfl,bT h1.oe (eY wz.o),bT h1.oe (eY Ox.o)⟩
   have HD2:=bK (Ai.o.below (Below.drew (Br_ V1.heap.size V1)));have Cz:=bK (bN CE.o (Below.drew (Br_ V1.heap.size V1)) (bO CE.o));have IX:Hid (∀V,V1.drew.grownBy V (some uM)->Bl V uM L (iw ((dO en i (iw (en i) (bg i))) i) ((dO en i (iw (en i) (bg i))) y.l))->kL w0 gw g s n L gb cb ge ce bs es bg (dO (dO en i (iw (en i) (bg i))) i (iw ((dO en i (iw (en i) (bg i))) i) ((dO en i (iw (en i) (bg i))) y.l))) V):=fun V h1 h2=>HD2.o.sU wz.o h1 h2
   have IP:Hid (∀V,V1.drew.grownBy V (some uM)->dh V gx 161 (dN y)):=fun V h1=>bQ Cz.o h1 (fun e=>dD Cz.o (HD2.o.re _ _ wz.o) (by decide) (oi_ e))
   have Ky:=bK (kZ uM OC L ((dO en i (iw (en i) (bg i))) i) ((dO en i (iw (en i) (bg i))) y.l) V1.drew (HD2.o.re _ _ wz.o) (HD2.o.re _ _ Ox.o) (HD2.o.neE Ox.o wz.o Nli.o) hL);have SS2:=IV.o _ _ _ HD2.o Cz.o;clear y0 Ai CE;generalize Pu.dQ L (en i) (bg i)=a1 at *
   go_wp2_with fail
   go_region_held3 (fun w'=>w'.cell? (a_ gw 3)=some (s_ ge n ce)/\w'.cell? (a_ gx 1)=some (I_ y.l)/\w'.cell? (a_ ge i)=some (s_ uM L L)/\w'.cell? (a_ ge (y.l))=some (s_ OC L L)) (first | assumption | exact IV.o _ _ _ (IX.o _ hg hbl) (IP.o _ hg)) (first | (go_at_call 164;refine Ky.o.mono ?_;rintro e w' ⟨rfl,hg,hbl⟩))
   have HS2:=bK (IX.o _ hg hbl);have BX2:=bK (IP.o _ hg);clear hg hbl SS2 IV HD2 Cz IX IP Ky;generalize w'=V2 at *;generalize Pu.dQ L ((dO en i (iw (en i) (bg i))) i) ((dO en i (iw (en i) (bg i))) y.l)=a2 at *
   cases a1 with
   | true=>?_
   | false=>?_
   all_goals
    go_wp2;go_ret;exact⟨by rw [E2.o];rfl,by rw [E1.o];exact HS2.o⟩
end Go.Proofs.YtmccnmgaoppogaaGreat
