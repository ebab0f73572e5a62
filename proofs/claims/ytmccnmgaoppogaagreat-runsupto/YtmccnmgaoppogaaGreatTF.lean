import Derived.Test.YtmccnmgaoppogaaGreatKbq
import Derived.ProofKit
import Derived.SizedLaws
import Derived.Deep.Slices
import Derived.Deep.Strs
import Derived.Lib.SmallJoins
import Derived.JoinedCond
namespace Go.Proofs.YtmccnmgaoppogaaGreat
open Pu
set_option linter.all false
set_option maxRecDepth 100000
set_option maxHeartbeats 8000000
open Go.RowKit
def su:oC:=⟨[0],[⟨1,0,0⟩],[⟨2,0,0,0⟩,⟨1,0,0,0⟩,⟨5,0,0,0⟩]⟩
theorem xB:iy su:=by
 have e0:∀i,i<1->i=0:=fun i h=>by omega
 have cs:∀i,i<3->i=0\/i=1\/i=2:=fun i h=>by omega
 refine⟨⟨⟨by decide,by decide⟩,fun i hi=>?_⟩,⟨⟨by decide,by decide⟩,fun i hi=>?_⟩,⟨⟨by decide,by decide⟩,fun i hi=>?_,.inr rfl⟩,fun i=>2-i,fun i hi j hj=>?_⟩
 .have:=e0 i hi;subst this;exact⟨Int.le_refl _,by decide⟩
 .have:=e0 i hi;subst this;exact⟨.inr rfl,⟨by decide,by decide⟩,⟨by decide,by decide⟩,.inr (.inr rfl)⟩
 .rcases cs i hi with h | h | h
  .subst h;exact .inr (.inl ⟨.inl rfl,rfl,rfl,rfl⟩)
  .subst h;exact .inl ⟨rfl,Int.le_refl _,by decide,rfl,rfl⟩
  .subst h;exact .inr (.inl ⟨.inr rfl,rfl,rfl,rfl⟩)
 .rcases cs i hi with h | h | h
  .subst h;simp [Pu.succ,Pu.fst,Pu.snd,su] at hj
  .subst h;simp [Pu.succ,Pu.fst,Pu.snd,su] at hj;subst hj;show 2-2<2-1;omega
  .subst h;simp [Pu.succ,Pu.fst,Pu.snd,su] at hj
theorem NZ:CO (strOfNums (vN su)) 1 0:=by have:=En xB;exact⟨⟨this.1,by rw [this.2];exact xB⟩,⟨by decide,by decide⟩,⟨by decide,by decide⟩⟩
theorem J8 (w:W_) (t1 t2 t3:Nat) (c1 c2 c3:List V_) (o:Obj) :
  dh ((((w.alloc (c_ c1.toArray t1)).alloc (c_ c2.toArray t2)).alloc (c_ c3.toArray t3)).alloc o) w.heap.size t1 c1/\dh ((((w.alloc (c_ c1.toArray t1)).alloc (c_ c2.toArray t2)).alloc (c_ c3.toArray t3)).alloc o) (w.heap.size+1) t2 c2/\dh ((((w.alloc (c_ c1.toArray t1)).alloc (c_ c2.toArray t2)).alloc (c_ c3.toArray t3)).alloc o) (w.heap.size+1+1) t3 c3:=by
 have h1:=hn_ w (c_ c1.toArray t1);have h2:=hn_ (w.alloc (c_ c1.toArray t1)) (c_ c2.toArray t2);rw [wa_] at h2;have h3:=hn_ ((w.alloc (c_ c1.toArray t1)).alloc (c_ c2.toArray t2)) (c_ c3.toArray t3);rw [wa_,wa_] at h3;exact⟨dx (dx (dx h1 _) _) _,dx (dx h2 _) _,dx h3 _⟩
theorem WI.nil {gw gd:Nat} {W:W_} (h:dh W gw 37 [n_,n_,p_ gd]) (hd:dh W gd 33 (drC 0 n_ n_)) (hu:gd<=gw) :
  WI 0 gw gd [] [] [] 0 n_ n_ n_ n_ W:=
 ⟨⟨h,fT _ _ _ _,fT _ _ _ _,fun x hx=>by simp at hx,fun x hx=>by simp at hx,di,fun x hx=>by simp at hx⟩,hd,fT _ _ _ _,fT _ _ _ _,fun b hb=>(by cases hb),fun i j x y hx=>(by simp at hx),hu,fun x hx=>by simp at hx⟩
theorem GU (s:Y_) (most depth:Int) (w:W_) (hs:s.size<=9223372036854775807) (U5:CO s most depth) :
  C_ 36 #[.string s,I_ most,I_ depth] w (fun e w'=>∃g,e=.returned (.tuple #[p_ g,I_ 0])/\B_ w w'):=by
 go_enter Tryz.func36,Tryz.ntmps36
 go_wp2_with fail
 refine (yn s _ hs).mono ?_
 rintro e w1 (⟨hF,hP,ve,vr,vc,rfl,hB1,he,hr,hc⟩ | ⟨hF,rfl,hB1⟩)
 rotate_left
 .exact absurd U5.1 hF
 obtain⟨ge,ce,rfl,-,-⟩:=dS he;obtain⟨gr,cr,rfl,-,-⟩:=dS hr;obtain⟨gc,cc,rfl,-,-⟩:=dS hc;have HB:=bK hB1;obtain⟨-,⟨m1,m2⟩,m3,m4⟩:=U5;clear he hr hc hF hP hB1;have d1:decide (most<1)=false:=dn_ (by omega);have d2:decide (64<most)=false:=dn_ (by omega);have d3:decide (depth<0)=false:=dn_ (by omega);have d4:decide (8<depth)=false:=dn_ (by omega);clear m1 m2 m3 m4;go_wp2
 go_ret2
 exact⟨w1.heap.size+1,rfl,(HB.o.alloc HB.o.size _).alloc (by have:=HB.o.size;simp;omega) _⟩
theorem OZ (gw gd:Nat) (dv:V_) (s:Y_) (most depth:Int) (w:W_) (h:dh w gw 37 [n_,n_,dv]) (hd:gd<=w.heap.size) (hs:s.size<=9223372036854775807) (U5:CO s most depth) (rm:Gh most) (rd:Gh depth) :
  C_ 16 #[p_ gw,.agg #[.string s,.pointer none],I_ most,I_ depth] w (fun e w'=>e=.returned (.bool true)/\∃a c wa,B_ w wa/\w'=wa.setCell (a_ gw 1) (.slice a 1 c)):=by
 obtain⟨aU,hig,hg0,hg1,hg2⟩:=ip_ Tryz.infg70;have SR:Hid (∀V,C_ 36 #[.string s,I_ most,I_ depth] V (fun e w'=>∃g,e=.returned (.tuple #[p_ g,I_ 0])/\B_ V w')):=fun V=>GU s most depth V hs U5
 have BA:Hid (B_ w (w.alloc (c_ #[.string s,.pointer none] 57))):=mi _;have KI:Hid (dh (w.alloc (c_ #[.string s,.pointer none] 57)) w.heap.size 57 [.string s,.pointer none]):=hn_ w _;have HW:=bK h;clear h;go_enter Tryz.func16,Tryz.ntmps16
 go_wp2_with fail
 generalize w.alloc (c_ #[.string s,.pointer none] 57)=W0 at *;refine (FH s most depth W0 hs rm rd).mono ?_
 rintro e W1 (⟨_,g,rfl,hge,hB1,hS⟩ | ⟨hF,rfl,hB1⟩ | ⟨hF,hM,rfl,hB1⟩)
 rotate_left
 .exact absurd U5.1 hF
 .exact absurd U5.2 hM
 have B1:=bK (iT BA.o hB1);have KI1:=bK (bN KI.o hB1 (bO KI.o));have aS:=bP 0 KI1.o rfl;have i1:=bP 1 KI1.o rfl;clear hB1 hS hge KI U5 BA
 go_wp2_with fail
 refine (SR.o W1).mono ?_
 clear aS i1 SR KI1;rintro e W2 ⟨gs,rfl,hB2⟩;have B2:=bK (iT B1.o hB2);have H2:=bK (bN HW.o B2.o (bO HW.o));have wl:=bO H2.o;have ne1:gw≠W2.heap.size:=by omega
 have yZ:W2.heap.size≠gw:=by omega
 have c1:=bP 1 H2.o rfl;have dl2:gd<=W2.heap.size:=lt_ hd B2.o.size;clear hB2 B1
 go_wp2_with fail
 refine (zI 0 _).mono ?_
 rintro e w5 ⟨rfl,rfl⟩
 go_wp2_with (at_builtin;refine wo_ _ rfl (.tmp 57) (.tmp 61) 35 rfl gd 70 aU (.agg #[.pointer none,.pointer none]) 2 16 Tryz.underlying35 hig hg0 hg1 hg2 rfl (by decide) n_ 0 [] rfl (fT _ _ _ _) (a_ w5.heap.size 0) 1 1 [p_ g,p_ gs] rfl rfl (jw rfl) (by intro u hu;simp at hu;rcases hu with rfl | rfl <;> rfl) (by unfold maxLen;omega) (by omega) (by simp;omega) ?_;intro v2 wa dw bS _;obtain⟨aq,cq,rfl,-,-⟩:=dS dw;have b1:=fK (fT _ gd 70 2) (dx H2.o (c_ #[p_ g,p_ gs] 70)) (by decide) bS;have c1':=bM (j:=1) b1 rfl;have z1:=bL b1 1)
 go_ret
 exact⟨rfl,aq,cq,wa,iT B2.o ((mi _).grown bS (by simp) (fun k hk=>by cases hk)),rfl⟩
def afW (gw gd:Nat) (w:W_) (e:Ending) (w':W_):Prop:=
 e=.returned (.bool true)/\Below gd w w'/\WI 0 gw gd [] [] [] 0 n_ n_ n_ n_ w'
theorem OY (gw gd:Nat) (w:W_) (vK:∀s,Bv s) (h:WI 0 gw gd [] [] [] 0 n_ n_ n_ n_ w) :
  C_ 8 #[p_ gw,I_ 8] w (afW gw gd w):=by
 have H0:=bK h;have HM:=bK vK;clear vK;have dl:=bO h.d;clear h;go_enter Tryz.func8,Tryz.ntmps8;have TB:=bK (J8 w 3 59 61 [I_ 0] [I_ 1,I_ 0,I_ 0] [I_ 2,I_ 0,I_ 0,I_ 0,I_ 1,I_ 0,I_ 0,I_ 0,I_ 5,I_ 0,I_ 0,I_ 0] (c_ #[s_ w.heap.size 1 1,s_ (w.heap.size+1) 1 1,s_ (w.heap.size+1+1) 3 3] 43));have B1:Hid (B_ w ((((w.alloc (c_ #[I_ 0] 3)).alloc (c_ #[I_ 1,I_ 0,I_ 0] 59)).alloc (c_ #[I_ 2,I_ 0,I_ 0,I_ 0,I_ 1,I_ 0,I_ 0,I_ 0,I_ 5,I_ 0,I_ 0,I_ 0] 61)).alloc (c_ #[s_ w.heap.size 1 1,s_ (w.heap.size+1) 1 1,s_ (w.heap.size+1+1) 3 3] 43))):=((((Br_ w.heap.size w).alloc di _).alloc (by simp) _).alloc (by simp;omega) _).alloc (by simp;omega) _
 go_wp2_with fail
 generalize ((((w.alloc (c_ #[I_ 0] 3)).alloc (c_ #[I_ 1,I_ 0,I_ 0] 59)).alloc (c_ #[I_ 2,I_ 0,I_ 0,I_ 0,I_ 1,I_ 0,I_ 0,I_ 0,I_ 5,I_ 0,I_ 0,I_ 0] 61)).alloc (c_ #[s_ w.heap.size 1 1,s_ (w.heap.size+1) 1 1,s_ (w.heap.size+1+1) 3 3] 43))=W1 at *
 have PK:=bK (Ny (s_ w.heap.size 1 1) (s_ (w.heap.size+1) 1 1) (s_ (w.heap.size+1+1) 3 3) su W1
  ⟨_,_,rfl,di,by decide,fun i hi=>⟨w.heap.size,0,rfl,bO TB.o.1,by
   obtain rfl:i=0:=by simp [su] at hi;omega
   exact bM (j:=0) TB.o.1 rfl⟩⟩
  ⟨_,_,rfl,di,by decide,fun i hi=>⟨w.heap.size+1,0,rfl,bO TB.o.2.1,by
   obtain rfl:i=0:=by simp [su] at hi;omega
   exact⟨bM (j:=0) TB.o.2.1 rfl,bM (j:=1) TB.o.2.1 rfl,bM (j:=2) TB.o.2.1 rfl⟩⟩⟩
  ⟨_,_,rfl,di,by decide,fun i hi=>⟨w.heap.size+1+1,0,rfl,bO TB.o.2.2,by
   have k:=TB.o.2.2;have h3:i=0\/i=1\/i=2:=by simp [su] at hi;omega
   rcases h3 with rfl | rfl | rfl
   .exact⟨bM (j:=0) k rfl,bM (j:=1) k rfl,bM (j:=2) k rfl,bM (j:=3) k rfl⟩
   .exact⟨bM (j:=4) k rfl,bM (j:=5) k rfl,bM (j:=6) k rfl,bM (j:=7) k rfl⟩
   .exact⟨bM (j:=8) k rfl,bM (j:=9) k rfl,bM (j:=10) k rfl,bM (j:=11) k rfl⟩⟩⟩)
 refine PK.o.mono ?_
 clear PK TB;rintro e W2 ⟨s,c,rfl,hb2,hok⟩;rcases hok with ⟨_,rfl,rfl⟩ | ⟨hno,_⟩
 rotate_left
 .exact absurd xB hno
 have B2:=bK (iT B1.o hb2);clear hb2 B1;have H2:=bK (H0.o.below B2.o);have BG:=bK (OZ gw gd _ (strOfNums (vN su)) 1 0 W2 H2.o.q.w (ll_ (bO H2.o.d)) (by decide) NZ ⟨by decide,by decide⟩ ⟨by decide,by decide⟩);generalize hsm:strOfNums (vN su)=sm at *;clear hsm
 go_wp2_with fail
 refine BG.o.mono ?_
 clear BG;rintro e W3 ⟨rfl,az,cz,wa,hb3,rfl⟩;have H3:=bK (H2.o.below hb3);have B3:=bK (B2.o.trans (hb3.mono B2.o.size));have w3:=bK (cO H3.o.q.w 1 (.slice az 1 cz));have d3:=bK (dB H3.o.d (T.iB H3.o.d H3.o.q.w (by decide)) 1 (.slice az 1 cz));have B4:Hid (Below gd w (wa.setCell (a_ gw 1) (.slice az 1 cz))):=(B3.o.mono (by omega)).setCell H3.o.up.1 _;clear hb3;have c1:=bP 1 w3.o rfl;have CG:=bK (fun s=>yg gw gd [] _ _ _ s _ w3.o (fT _ _ _ _) (ll_ (bO d3.o)) (by decide) (HM.o s));generalize wa.setCell (a_ gw 1) (.slice az 1 cz)=W4 at *
 go_wp2_with fail
 refine (CG.o _).mono ?_
 clear c1 CG;rintro e W5 ⟨rfl,hb5 | ⟨pc,a2,c2,wb,wc,hb5,-,hg,ho,rfl⟩⟩
 focus
  have w5:=bK (bN w3.o hb5 (bO w3.o));have d5:=bK (bN d3.o hb5 (bO d3.o));have B5:Hid (Below gd w W5):=B4.o.trans (hb5.mono (ll_ (bO d3.o)))
 rotate_left
 focus
  have wb5:=bN w3.o hb5 (bO w3.o);have db5:=bN d3.o hb5 (bO d3.o);have wc5:=fK (fT _ gd 57 2) wb5 (by decide) hg;have dc5:=fK (fT _ gd 57 2) db5 (by decide) hg;have w5:=bK (cO wc5 0 (.slice a2 1 c2));have d5:=bK (dB dc5 (T.iB dc5 wc5 (by decide)) 0 (.slice a2 1 c2));have B5:Hid (Below gd w (wc.setCell (a_ gw 0) (.slice a2 1 c2))):=(B4.o.trans ((hb5.mono (ll_ (bO d3.o))).grown hg (ll_ (bO db5)) (fun k hk=>by cases hk))).setCell H3.o.up.1 _
 rotate_left
 all_goals
  have c1:=bP 1 w5.o rfl;have c0:=bP 0 w5.o rfl;have f1:=bL w5.o 1;have f0:=bL w5.o 0
 focus clear hb5
 rotate_left
 focus
  clear hb5 hg ho wb5 db5 wc5 dc5;generalize wc.setCell (a_ gw 0) (.slice a2 1 c2)=W6 at *
 all_goals
  go_wp2;go_ret;have w6:=cO w5.o 1 n_;have d6:=dB d5.o (T.iB d5.o w5.o (by decide)) 1 n_;exact⟨rfl,(B5.o.setCell H3.o.up.1 _).setCell H3.o.up.1 _,.nil (cO w6 0 _) (dB d6 (T.iB d6 w6 (by decide)) 0 _) H3.o.up.1⟩
structure Uj where
 kind:Int
 on:Int
 a:Int
 b:Int
 s:Y_
 ae:Option Addr
 ne:Nat
 ce:Nat
 ar:Option Addr
 nr:Nat
 cr:Nat
 ac:Option Addr
 nc:Nat
 cc:Nat
def ad5 (W:W_) (v:V_) (l:List Uj):Prop:=∃ao cap,v=.slice ao l.length cap/\l.length<=cap/\cap<=9223372036854775807/\
 ∀(i:Nat) (x:Uj),l[i]?=some x->∃b off,ao=some (a_ b off)/\b<W.heap.size/\W.cell? (a_ b (off+i*8))=some (I_ x.kind)/\W.cell? (a_ b (off+i*8+1))=some (I_ x.on)/\W.cell? (a_ b (off+i*8+2))=some (I_ x.a)/\W.cell? (a_ b (off+i*8+3))=some (I_ x.b)/\W.cell? (a_ b (off+i*8+4))=some (.string x.s)/\W.cell? (a_ b (off+i*8+5))=some (.slice x.ae x.ne x.ce)/\W.cell? (a_ b (off+i*8+6))=some (.slice x.ar x.nr x.cr)/\W.cell? (a_ b (off+i*8+7))=some (.slice x.ac x.nc x.cc)
def ad4 (l:List Uj):Prop:=∀x∈l,Gh x.on/\Gh x.a/\Gh x.b
def zX (l:List Uj):Nat:=(l.map (fun x=>x.s.size)).sum
theorem Wu {l:List Uj} {i:Nat} {x:Uj} (h:l[i]?=some x):zX (l.take (i+1))=zX (l.take i)+x.s.size:=by unfold zX;rw [List.take_add_one,h];simp
theorem acR (l:List Uj) (i:Nat):zX (l.take i)<=zX l:=by
 unfold zX;have:l.map (fun x=>x.s.size)=(l.take i).map (fun x=>x.s.size)++(l.drop i).map (fun x=>x.s.size):=by rw [<-List.map_append,List.take_append_drop]
 rw [this,List.sum_append];omega
def PI (l:List Uj) (gw gd i:Nat) (W:W_):Prop:=
 ∃N iG zs ts n mG mR jh jb,WI N gw gd iG zs ts n mG mR jh jb W/\N<=zX (l.take i)/\iG.length<=i/\zs.length<=i/\ts.length<=i/\(0<=n/\n<=i)/\∀x∈ts,x.cap<=9223372036854775807
theorem WI.start {w:W_}:WI 0 (w.heap.size+1) w.heap.size [] [] [] 0 n_ n_ n_ n_ ((w.alloc (c_ #[I_ 0,n_,n_,n_,n_,n_,n_,n_,n_] 33)).alloc (c_ #[n_,n_,p_ w.heap.size] 37)):=by have h1:=hn_ w (c_ #[I_ 0,n_,n_,n_,n_,n_,n_,n_,n_] 33);have h2:=hn_ (w.alloc (c_ #[I_ 0,n_,n_,n_,n_,n_,n_,n_,n_] 33)) (c_ #[n_,n_,p_ w.heap.size] 37);rw [wa_] at h2;exact .nil h2 (dx (t:=33) (xs:=drC 0 n_ n_) h1 _) (by omega)
theorem VW (v:V_) (l:List Uj) (w:W_) (vK:∀s,Bv s) (hS:ad5 w v l) (hR:ad4 l) (hb:zX l<=1048576) (hl:l.length<=1048576) :
  C_ 6 #[v,I_ 2,I_ 4,I_ 8] w (Du (.bool true) w):=by
 obtain⟨ao,cap,rfl,l1,l2,HSx⟩:=hS;have HS:=bK HSx;have HR:=bK hR;have H0:=bK (WI.start (w:=w));have B0:Hid (B_ w ((w.alloc (c_ #[I_ 0,n_,n_,n_,n_,n_,n_,n_,n_] 33)).alloc (c_ #[n_,n_,p_ w.heap.size] 37))):=((Br_ w.heap.size w).alloc di _).alloc (by simp) _;have HM:=bK vK;clear HSx hR vK;go_enter Tryz.func6,Tryz.ntmps6
 go_wp2_with fail
 generalize ((w.alloc (c_ #[I_ 0,n_,n_,n_,n_,n_,n_,n_,n_] 33)).alloc (c_ #[n_,n_,p_ w.heap.size] 37))=W0 at *;refine (OY (w.heap.size+1) w.heap.size W0 HM.o H0.o).mono ?_
 clear H0;rintro e W1 ⟨rfl,hb1,hW1⟩;have B1:=bK (B0.o.trans hb1)
 have P1:Hid (PI l (w.heap.size+1) w.heap.size 0 W1):=⟨_,_,_,_,_,_,_,_,_,hW1,zl_ _,di,di,di,⟨Int.le_refl _,Int.le_refl _⟩,fun x hx=>by simp at hx⟩
 clear hb1 hW1 B0
 go_wp2_with fail
 go_loopg [11] l.length (fun gk iv wx=>∃i:Nat,i<=l.length/\iv=I_ i/\gk=l.length-i/\B_ w wx/\PI l (w.heap.size+1) w.heap.size i wx)
 case atStart=>exact⟨0,zl_ _,rfl,rfl,B1.o,P1.o⟩
 case round=>
  clear B1 P1;obtain⟨i,hi,rfl,rfl,hbx,hP⟩:=hrel;have BX:=bK hbx;have HP:=bK hP;have sz:=hbx.size;by_cases hlt:i<l.length
  .have hii:=nV i l.length;have aS:=jg i;have i1:(i:Int)<l.length:=by omega
   have wi:=kg i;obtain⟨x,hx⟩:=qG l i hlt;obtain⟨b,off,rfl,hbl,e0,e1,e2,e3,e4,e5,e6,e7⟩:=HS.o i x hx;have rx:=HR.o x (mg_ hx);have s1:=Wu hx;have s2:=acR l (i+1);have ge:∀j v,w.cell? (a_ b j)=some v->wr.cell? (a_ b j)=some v:=fun j v h=>(hbx.cell (p:=(a_ b j)) hbl).trans h
   have k0:=ge _ _ e0;have k1:=ge _ _ e1;have k2:=ge _ _ e2;have k3:=ge _ _ e3;have k4:=ge _ _ e4;have k5:=ge _ _ e5;have k6:=ge _ _ e6;have k7:=ge _ _ e7;clear ge e0 e1 e2 e3 e4 e5 e6 e7 hbx hP hx;obtain⟨kind,on,a,b',s,ae,ne,ce,ar,nr,cr,ac,nc,cc⟩:=x;simp only at k0 k1 k2 k3 k4 k5 k6 k7 rx s1;by_cases hk:kind=8\/kind=2\/kind=3\/kind=4\/kind=9
   .obtain⟨N,iG,zs,ts,n,mG,mR,jh,jb,hW,q1,q2,q3,q4,q5,q6⟩:=HP.o;have ST:=bK (Wt N (w.heap.size+1) w.heap.size iG zs ts n mG mR jh jb kind on a b' s ae ar ac ne ce nr cr nc cc wr hW (by omega) (by omega) (by omega) (by omega) (by omega) (HM.o s) rx.2.1 rx.2.2 rx.1 hk);have Q6:=bK q6;clear hW HP;have pE:Hid (∀(e:Ending) (w2:W_),XJ (N+s.size) (w.heap.size+1) w.heap.size iG.length zs.length ts.length ts n wr e w2->e=.returned (.bool true)/\B_ w w2/\PI l (w.heap.size+1) w.heap.size (i+1) w2):=by rintro e w2 ⟨rfl,hlo,abY,zs',ts',n',vim',vsc',Ha,FU,hW',a1,a2,a3,a4,a5⟩;exact⟨rfl,BX.o.trans hlo,_,_,_,_,_,_,_,_,_,hW',by omega,by omega,by omega,by omega,⟨a4.1,by omega⟩,fun y hy=>(a5 y hy).elim (fun h=>Q6.o y h) id⟩
    clear q6 sz;rcases hk with rfl | rfl | rfl | rfl | rfl
    all_goals
     go_wp2_with fail
     refine ST.o.mono ?_
     clear ST k0 k1 k2 k3 k4 k5 k6 k7;intro e w2 hst;obtain⟨rfl,hb2,hP2⟩:=pE.o e w2 hst;clear pE hst;obtain⟨N2,akg,zs2,ts2,n2,akU,akX,akY,akW,hW2,p1,p2,p3,p4,p5,p6⟩:=hP2;have LK:=bK (Vt N2 (w.heap.size+1) w.heap.size akg zs2 ts2 n2 akU akX akY akW w2 hW2 p6 (by omega));have B2:=bK hb2;have H2:=bK hW2;have P6:=bK p6;have c2:=bP 2 hW2.q.w rfl;clear hb2 hW2 p6
     go_wp2_with fail
     refine LK.o.mono ?_
     clear LK c2;rintro e w3 ⟨rfl,hb3⟩;have B3:=bK (iT B2.o hb3);have P3:Hid (PI l (w.heap.size+1) w.heap.size (i+1) w3):=⟨_,_,_,_,_,_,_,_,_,H2.o.below hb3,p1,p2,p3,p4,p5,P6.o⟩;clear hb3;go_wp2;go_roundg (l.length-(i+1))
     case measure=>omega
     case rel=>exact⟨i+1,by omega,by go_num,rfl,B3.o,P3.o⟩
   .have P3:Hid (PI l (w.heap.size+1) w.heap.size (i+1) wr):=by obtain⟨N,iG,zs,ts,n,mG,mR,jh,jb,hW,q1,q2,q3,q4,q5,q6⟩:=HP.o;exact⟨_,_,_,_,_,_,_,_,_,hW,by omega,by omega,by omega,by omega,by omega,q6⟩
    have n1:(kind != 8)=true:=by simp;omega
    have n9:(kind != 9)=true:=by simp;omega
    by_cases hk1:kind<2
    focus have d1:decide (kind<2)=true:=dt_ hk1
    rotate_left
    focus
     have d1:decide (kind<2)=false:=dn_ hk1;have d4:decide (4<kind)=true:=dt_ (by omega)
    all_goals
     go_wp2;go_roundg (l.length-(i+1))
     case measure=>omega
     case rel=>exact⟨i+1,by omega,by go_num,rfl,BX.o,P3.o⟩
  .have hii:=mM i l.length;clear hbx hP;go_wp2;go_ret;exact⟨rfl,BX.o⟩
open Go.ChangeShapes Go.WideShapes Go.ChangeAt Go.RowKit Go.Deep Go.Joins
theorem Z6 (v:V_) (l:List Uj) (w:W_) (vK:∀s,Bv s) (hS:ad5 w v l) (hR:ad4 l) (hb:zX l<=1048576) (hl:l.length<=1048576) :
  C_ 5 #[v] w (Du (.bool true) w):=by
 have PL:=bK (VW v l w vK hS hR hb hl);obtain⟨ao,cap,rfl,l1,l2,HSx⟩:=hS;clear HSx;go_enter Tryz.func5,Tryz.ntmps5
 go_wp2_with fail
 refine PL.o.mono ?_
 clear PL;rintro e w' ⟨rfl,hb⟩;have HB:=bK hb;clear hb;go_wp2;go_ret
 exact⟨rfl,HB.o⟩
theorem Tryz.own:ownKnob Tryz.prog.godebug=none:=by kernel_rfl
theorem Tryz.laidOut:laidOutB Tryz.prog=true:=by kernel_rfl
theorem Tryz.cells3 : Tryz.prog.cellsOf 3 = 1:=by kernel_rfl
theorem Tryz.cells9 : Tryz.prog.cellsOf 9 = 1:=by kernel_rfl
theorem Tryz.cells43 : Tryz.prog.cellsOf 43 = 3:=by kernel_rfl
theorem Tryz.cells31 : Tryz.prog.cellsOf 31 = 1:=by kernel_rfl
theorem Tryz.cells40 : Tryz.prog.cellsOf 40 = 1:=by kernel_rfl
theorem Tryz.cells41 : Tryz.prog.cellsOf 41 = 1:=by kernel_rfl
theorem Tryz.cells45 : Tryz.prog.cellsOf 45 = 8:=by kernel_rfl
theorem QE {n:Int} (h:(Lit.int .i64 n).wf=true):Gh n:=by simp only [Lit.wf,Bool.and_eq_true,decide_eq_true_eq] at h;exact h
theorem Lr {H:Type} (l r:List (DataW H)):Rows.uptoBulkAll (l++r)=Rows.uptoBulkAll l+Rows.uptoBulkAll r:=by
 induction l with
 | nil=>simp [Rows.uptoBulkAll]
 | cons x l ih=>simp only [List.cons_append,Rows.uptoBulkAll,ih];omega
theorem Pg {H:Type} {l:List (DataW H)} (hk:Rows.uptoSmall H l=true):Rows.uptoBulkAll l<=1048576:=of_decide_eq_true hk
theorem ako {α:Type} (l:List α) (h:l.length=3):∃a b c,l=[a,b,c]:=by
 match l,h with
 | [a,b,c],_=>exact⟨a,b,c,rfl⟩
theorem akp {α:Type} (l:List α) (h:l.length=6):∃a b c d e f,l=[a,b,c,d,e,f]:=by
 match l,h with
 | [a,b,c,d,e,f],_=>exact⟨a,b,c,d,e,f,rfl⟩
theorem akq {α:Type} (l:List α) (h:l.length=8):∃a b c d e f g i,l=[a,b,c,d,e,f,g,i]:=by
 match l,h with
 | [a,b,c,d,e,f,g,i],_=>exact⟨a,b,c,d,e,f,g,i,rfl⟩
theorem acB {α:Type} {n:Nat} {p:Nat->α->Prop} (h:∀i,i<n->∃x,p i x) (d:α):∃f:Nat->α,∀i,i<n->p i (f i):=by
 classical
 refine⟨fun i=>if hi:i<n then Classical.choose (h i hi) else d,fun i hi=>?_⟩;simp only [dif_pos hi];exact Classical.choose_spec (h i hi)
section
variable {H:Type} {enc:TypeId × V_->H} {W:W_} {spare:Nat->Bool} {held:Bool}
theorem slice_form {t e:TypeId} {fuel:Nat} {v:V_} {x:DataW H × List MemPlace} (ht:Tryz.prog.underlying t=some (.slice e)) (h:DataW.trod enc Tryz.prog W 0 spare held fuel t [v]=some x):∃ao n c,v=.slice ao n c:=by
 rcases open_slice ht h with ⟨hcs,_⟩ | ⟨a,len,cap,m,n,D,aJ,hcs,_⟩
 .exact⟨_,_,_,(List.cons.inj hcs).1⟩
 .exact⟨_,_,_,(List.cons.inj hcs).1⟩
def akO:Uj:=⟨0,0,0,0,⟨#[]⟩,none,0,0,none,0,0,none,0,0⟩
theorem ahu {fuel:Nat} {cs:List V_} {x:DataW H × List MemPlace} (h:DataW.trod enc Tryz.prog W 0 spare held fuel 45 cs=some x) (kU:cs.length=8) :
  ∃o:Uj,cs=[I_ o.kind,I_ o.on,I_ o.a,I_ o.b,.string o.s,.slice o.ae o.ne o.ce,.slice o.ar o.nr o.cr,.slice o.ac o.nc o.cc]/\Gh o.on/\Gh o.a/\Gh o.b/\o.s.size+1<=Rows.uptoBulk x.1:=by
 obtain⟨xs,k,-,hx,-,hxl,hf⟩:=DataW.trod_struct Tryz.underlying45 h;have ag8:xs.length=6:=hxl;obtain⟨y0,y1,y2,y3,y4,y5,rfl⟩:=akp xs ag8;obtain⟨v0,v1,v2,v3,v4,v5,v6,v7,rfl⟩:=akq cs kU;clear hxl ag8 kU;have hf0:DataW.trod enc Tryz.prog W 0 spare held k 3 ((List.drop 0 [v0,v1,v2,v3,v4,v5,v6,v7]).take (Tryz.prog.cellsOf 3))=some y0:=hf 0 _ rfl;have hf1:DataW.trod enc Tryz.prog W 0 spare held k 3 ((List.drop 1 [v0,v1,v2,v3,v4,v5,v6,v7]).take (Tryz.prog.cellsOf 3))=some y1:=hf 1 _ rfl;have hf2:DataW.trod enc Tryz.prog W 0 spare held k 3 ((List.drop 2 [v0,v1,v2,v3,v4,v5,v6,v7]).take (Tryz.prog.cellsOf 3))=some y2:=hf 2 _ rfl;have hf3:DataW.trod enc Tryz.prog W 0 spare held k 3 ((List.drop 3 [v0,v1,v2,v3,v4,v5,v6,v7]).take (Tryz.prog.cellsOf 3))=some y3:=hf 3 _ rfl;have SH:DataW.trod enc Tryz.prog W 0 spare held k 9 ((List.drop 4 [v0,v1,v2,v3,v4,v5,v6,v7]).take (Tryz.prog.cellsOf 9))=some y4:=hf 4 _ rfl;have hf5:DataW.trod enc Tryz.prog W 0 spare held k 43 ((List.drop 5 [v0,v1,v2,v3,v4,v5,v6,v7]).take (Tryz.prog.cellsOf 43))=some y5:=hf 5 _ rfl;rw [Tryz.cells3] at hf0 hf1 hf2 hf3;rw [Tryz.cells9] at SH;rw [Tryz.cells43] at hf5;obtain⟨n0,c0,-,w0⟩:=DataW.trod_int Tryz.underlying3 (hf0:DataW.trod enc Tryz.prog W 0 spare held k 3 [v0]=some y0);obtain⟨n1,c1,-,w1⟩:=DataW.trod_int Tryz.underlying3 (hf1:DataW.trod enc Tryz.prog W 0 spare held k 3 [v1]=some y1);obtain⟨n2,c2,-,w2⟩:=DataW.trod_int Tryz.underlying3 (hf2:DataW.trod enc Tryz.prog W 0 spare held k 3 [v2]=some y2);obtain⟨n3,c3,-,w3⟩:=DataW.trod_int Tryz.underlying3 (hf3:DataW.trod enc Tryz.prog W 0 spare held k 3 [v3]=some y3);obtain⟨s,c4,e4,w4⟩:=DataW.trod_string Tryz.underlying9 (SH:DataW.trod enc Tryz.prog W 0 spare held k 9 [v4]=some y4);obtain⟨zs,k',-,-,-,hzl,hg⟩:=DataW.trod_struct Tryz.underlying43 (hf5:DataW.trod enc Tryz.prog W 0 spare held k 43 [v5,v6,v7]=some y5);have akd:zs.length=3:=hzl;obtain⟨z0,z1,z2,rfl⟩:=ako zs akd;have hg0:DataW.trod enc Tryz.prog W 0 spare held k' 31 ((List.drop 0 [v5,v6,v7]).take (Tryz.prog.cellsOf 31))=some z0:=hg 0 _ rfl;have hg1:DataW.trod enc Tryz.prog W 0 spare held k' 40 ((List.drop 1 [v5,v6,v7]).take (Tryz.prog.cellsOf 40))=some z1:=hg 1 _ rfl;have hg2:DataW.trod enc Tryz.prog W 0 spare held k' 41 ((List.drop 2 [v5,v6,v7]).take (Tryz.prog.cellsOf 41))=some z2:=hg 2 _ rfl;rw [Tryz.cells31] at hg0;rw [Tryz.cells40] at hg1;rw [Tryz.cells41] at hg2;obtain⟨ae,ne,ce,rfl⟩:=slice_form Tryz.underlying31 (hg0:DataW.trod enc Tryz.prog W 0 spare held k' 31 [v5]=some z0);obtain⟨ar,nr,cr,rfl⟩:=slice_form Tryz.underlying40 (hg1:DataW.trod enc Tryz.prog W 0 spare held k' 40 [v6]=some z1);obtain⟨ac,nc,cc,rfl⟩:=slice_form Tryz.underlying41 (hg2:DataW.trod enc Tryz.prog W 0 spare held k' 41 [v7]=some z2);have aW:=(List.cons.inj c0).1;have q1:=(List.cons.inj c1).1;have q2:=(List.cons.inj c2).1;have q3:=(List.cons.inj c3).1;have q4:=(List.cons.inj c4).1;subst aW q1 q2 q3 q4;refine⟨⟨n0,n1,n2,n3,s,ae,ne,ce,ar,nr,cr,ac,nc,cc⟩,rfl,QE w1,QE w2,QE w3,?_⟩;rw [hx];have e:Rows.uptoBulk (y4.1)=s.size+1:=by rw [e4];simp [Rows.uptoBulk]
 simp only [Rows.uptoBulk,Rows.uptoBulkAll,List.map_cons,List.map_nil,e];omega
theorem aeQ {fuel:Nat} {v:V_} {x:DataW H × List MemPlace} (h:DataW.trod enc Tryz.prog W 0 spare held fuel 22 [v]=some x) :
  ∃l,ad5 W v l/\ad4 l/\zX l+l.length<=Rows.uptoBulk x.1:=by
 rcases open_slice Tryz.underlying22 h with ⟨hcs,hx⟩ | ⟨a,len,cap,m,n,D,aJ,hcs,_,hl,hm,hmm,hx,qD⟩
 .simp only [List.cons.injEq,and_true] at hcs;subst hcs;exact⟨[],⟨none,0,rfl,di,by omega,fun i x hi=>by simp at hi⟩,fun x hx=>by simp at hx,by simp [zX]⟩
 .simp only [List.cons.injEq,and_true] at hcs;subst hcs;have hlm:len<=m:=by rw [hmm];split <;> omega
  unfold maxLen at hm
  have each:∀i,i<len->∃o:Uj,(∀j u,[I_ o.kind,I_ o.on,I_ o.a,I_ o.b,.string o.s,.slice o.ae o.ne o.ce,.slice o.ar o.nr o.cr,.slice o.ac o.nc o.cc][j]?=some u->W.cell? (a.add (i*8+j))=some u)/\(Gh o.on/\Gh o.a/\Gh o.b)/\o.s.size+1<=Rows.uptoBulk (D i):=by
   intro i hi;obtain⟨cs',h1,h2⟩:=qD i (by omega);rw [Tryz.cells45] at h1;obtain⟨_,kU,hc⟩:=World.cells?_some h1;obtain⟨o,rfl,r1,r2,r3,r4⟩:=ahu h2 kU;refine⟨o,fun j u hj=>?_,⟨r1,r2,r3⟩,r4⟩;have hjl:j<8:=by have:=(ge_.1 hj).1;simpa using this
   have e:=hc j hjl;rw [add_add] at e;rw [e];exact hj
  obtain⟨f,hf⟩:=acB each akO
  have hget:∀i x,((List.range len).map f)[i]?=some x->i<len/\x=f i:=by
   intro i x hx;have hil:i<len:=by have:=(ge_.1 hx).1;simpa using this
   rw [gm_,List.getElem?_range hil] at hx;exact⟨hil,(oi_ hx).symm⟩
  refine⟨(List.range len).map f,⟨some a,cap,by simp,by simpa using hl,hm,fun i x hi=>?_⟩,fun x hx=>?_,?_⟩
  .obtain⟨hil,rfl⟩:=hget i x hi;have g:=(hf i hil).1;obtain⟨b,off,spot⟩:=a;have hspot:spot=none:=by have:=World.cell?_spot ((hf 0 (by omega)).1 0 _ rfl);simpa [Addr.add] using this
   subst hspot;simp only [add_eq] at g;exact⟨b,off,rfl,World.block_lt_of_cell? W _ (g 0 _ rfl),g 0 _ rfl,g 1 _ rfl,g 2 _ rfl,g 3 _ rfl,g 4 _ rfl,g 5 _ rfl,g 6 _ rfl,g 7 _ rfl⟩
  .obtain⟨i,hi,rfl⟩:=List.mem_map.1 hx;exact (hf i (List.mem_range.1 hi)).2.1
  .rw [hx]
   have key:∀k,k<=len->zX ((List.range k).map f)+k<=Rows.uptoBulkAll ((List.range k).map D):=by
    intro k
    induction k with
    | zero=>intro _;simp [zX]
    | succ k ih=>intro hk;have ih':=ih (by omega);have g:=(hf k (by omega)).2.2;rw [List.range_succ,List.map_append,List.map_append,Lr];unfold zX at ih' |-;rw [List.map_append,List.sum_append];simp [Rows.uptoBulkAll] at g |-;simp at ih';omega
   have:=key len di;simp only [Rows.uptoBulk,lm_,List.length_range];omega
end
end Go.Proofs.YtmccnmgaoppogaaGreat
