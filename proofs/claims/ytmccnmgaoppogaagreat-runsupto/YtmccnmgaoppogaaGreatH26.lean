import Derived.Test.YtmccnmgaoppogaaGreatKaz
namespace Go.Proofs.YtmccnmgaoppogaaGreat
open Pu
set_option linter.all false
set_option maxRecDepth 100000
set_option maxHeartbeats 8000000
open Go.RowKit
theorem MX (B g aS:Nat) (s:Y_) (ls:List aC) (ns:List aF) (xI:List IU) (vn:V_) (al:Option Addr) (cl:Nat) (modes down:Int) (hn:ns.length<=100000) (hp:0<ns.length) (hll:ls.length<=1000) (mode:Int) (w:W_) (hd:Dr B g s aS ns vn (.slice al xI.length cl) modes down w) (hL:w.ownsRow B 101 5 (.slice al xI.length cl) xI.length (Gl xI)) (hA:Pu.AD ls ⟨ns,xI,modes,down⟩) :
  C_ 65 #[p_ g,I_ mode] w (CJ (vE ls ns mode) ns.length w):=by
 obtain⟨il,hil,hl0,hl1,hl2⟩:=ip_ zm;have hmk:=qx ns.length hn;obtain⟨an,cn,rfl,_,_⟩:=dS hd.own;have HD:=bK hd;have HL:=bK hL;have HA:=bK hA;have b1:B_ w (w.alloc (c_ #[n_,n_,n_] 163)):=mi _;have c1:=bP 1 (hd.below b1).rb rfl;have G0:Hid (GP w g w.heap.size (w.heap.size+1) ns.length n_ [] ((w.alloc (c_ #[n_,n_,n_] 163)).alloc (c_ #[p_ g,n_] 202))):=by have h1:=hn_ w (c_ #[n_,n_,n_] 163);have h2:=hn_ (w.alloc (c_ #[n_,n_,n_] 163)) (c_ #[p_ g,n_] 202);rw [wa_] at h2;exact⟨h2,fT _ _ _ _,fun g' hg=>by simp at hg,List.nodup_nil,b1.alloc (by simp) _,by omega,dx h1 _,di,fun g' hg=>by simp at hg⟩
 clear hd b1 hL hA;go_enter Tryz.func65,Tryz.ntmps65
 go_wp2_with fail
 clear c1
 go_loopg [7] ns.length (fun gk iv wx=>∃(i:Nat) (gs:List Nat) (vf:V_),i<=ns.length/\gk=ns.length-i/\iv=I_ i/\gs.length=i/\GP w g w.heap.size (w.heap.size+1) ns.length vf gs wx)
 case atStart=>exact⟨0,[],_,zl_ _,rfl,rfl,rfl,G0.o⟩
 case round=>
  clear G0;obtain⟨i,gs,vf,il',rfl,rfl,rfl,hG⟩:=hrel;have HG:=bK hG;by_cases hi:gs.length<ns.length
  .have d1:=nV gs.length ns.length;have wi:=xF ((gs.length:Int)+1);have G2:=bK (hG.below (jC wr ns.length));have yz:Hid (∀j u,[s_ wr.heap.size ns.length ns.length][j]?=some u->(qV wr ns.length).cell? ((⟨(wr.alloc (c_ (qM ns.length (fun _=>false)).toArray 4)).heap.size,0,none⟩:Addr).add j)=some u):=World.news_of_block (cs:=#[s_ wr.heap.size ns.length ns.length]) (t:=203) (fr:=(0,0)) (zT _ _);have Dj:Hid (∀j u,[s_ wr.heap.size ns.length ns.length][j]?=some u->(qV wr ns.length).cell? (((a_ (wr.heap.size+1) 0):Addr).add j)=some u):=by have:=yz.o;rw [wa_] at this;exact this
   have c1m:=bP 1 (dx hG.b (c_ (qM ns.length (fun _=>false)).toArray 4)) rfl;have OI:Hid (w.heap.size<=(qV wr ns.length).heap.size):=lt_ hG.be.size (jC _ _).size;have c1:=bP 1 hG.b rfl;have c1':=bP 1 G2.o.b rfl;clear hG
   go_wp2_with fail
   refine wd_ (S:=fun _=>True) (by kernel_rfl) trivial (fun dF=>?_);refine bW 0 ?_
   refine bW 1 ?_
   refine bW 2 ?_
   refine bW 3 ?_
   refine bW 5 ?_
   refine xY 4 6 (fun K hK=>?_) (fun K hK=>?_)
   all_goals
    go_simp
    refine hK.out _ _ trivial (fun dF=>?_);clear hK K
    try simp only [nU,Act.put]
   .refine fq 6 (fun K hK=>?_)
    go_simp
    refine hK.out _ _ trivial (fun dF=>?_);clear hK K
    try simp only [nU,Act.put]
    refine fq 7 (fun K hK=>?_);refine eQ 102 203 0 (.tmp 42) (s_ wr.heap.size ns.length ns.length) rfl rfl #[s_ wr.heap.size ns.length ns.length] il _ 1 Tryz.underlying102 hil hl0 hl1 (by omega) (by omega) (tC _ _ _) ?_
    refine hK.out _ _ trivial (fun dF=>?_);clear hK K
    try simp only [nU,Act.put]
    refine fq 8 (fun K hK=>?_);refine sa_ _ (by rfl) _ _ _ (by rfl) w.heap.size 203 il _ 1 24 Tryz.underlying102 hil hl0 hl1 hl2 rfl (by omega) vf gs.length (mX ns.length gs) (by rfl) G2.o.own ⟨(wr.alloc (c_ (qM ns.length (fun _=>false)).toArray 4)).heap.size,0,none⟩ 1 1 [s_ wr.heap.size ns.length ns.length] (by rfl) rfl yz.o (fun u hu=>by simp at hu;subst hu;rfl) (by omega) (by unfold maxLen;omega) (by omega) OI.o (wr.heap.size+1+1) (by simp) ?_
    intro g2 fE w2 dw bS jH kV;clear jH kV;refine hK.out _ _ trivial (fun dF=>?_);clear hK K;have kD:=dR G2.o.own G2.o.b (by decide) bS;have k1:=bP 1 kD rfl;have Ee:=bL kD 1
    try simp only [nU,Act.put]
    refine bW 9 ?_
    refine bW 10 ?_
    refine fq 11 (fun K hK=>?_)
    go_simp
    refine hK.out _ _ trivial (fun dF=>?_);clear hK K;refine wpAnyH_done (by kernel_rfl) ?_ _;have G3:=bK (GP.add HG.o dw bS);clear dF kD k1 Ee dw bS;go_wp2;go_roundg (ns.length-(gs.length+1))
    case measure=>omega
    case rel=>exact⟨gs.length+1,gs++[wr.heap.size],_,by omega,rfl,by go_num,by simp,G3.o⟩
   .refine xY 4 7 (fun K hK=>?_) (fun K hK=>?_)
    focus
     go_simp
     refine hK.out _ _ trivial (fun dF=>?_);clear hK K
     try simp only [nU,Act.put]
     refine fq 7 (fun K hK=>?_)
    rotate_left
    rotate_left
    all_goals
     refine eQ 102 203 0 (.tmp 42) (s_ wr.heap.size ns.length ns.length) rfl rfl #[s_ wr.heap.size ns.length ns.length] il _ 1 Tryz.underlying102 hil hl0 hl1 (by omega) (by omega) (tC _ _ _) ?_
     refine hK.out _ _ trivial (fun dF=>?_);clear hK K
     try simp only [nU,Act.put]
    focus
     refine fq 8 (fun K hK=>?_);refine sa_ _ (by rfl) _ _ _ (by rfl) w.heap.size 203 il _ 1 24 Tryz.underlying102 hil hl0 hl1 hl2 rfl (by omega) vf gs.length (mX ns.length gs) (by rfl) G2.o.own ⟨(wr.alloc (c_ (qM ns.length (fun _=>false)).toArray 4)).heap.size,0,none⟩ 1 1 [s_ wr.heap.size ns.length ns.length] (by rfl) rfl yz.o (fun u hu=>by simp at hu;subst hu;rfl) (by omega) (by unfold maxLen;omega) (by omega) OI.o (wr.heap.size+1+1) (by simp) ?_
    rotate_left
    focus
     refine fq 4 (fun K hK=>?_)
     go_simp
     refine hK.out _ _ trivial (fun dF=>?_);clear hK K
     try simp only [nU,Act.put]
     refine fq 8 (fun K hK=>?_);refine sa_ _ (by rfl) _ _ _ (by rfl) w.heap.size 203 il _ 1 24 Tryz.underlying102 hil hl0 hl1 hl2 rfl (by omega) vf gs.length (mX ns.length gs) (by rfl) G2.o.own (a_ (wr.heap.size+1) 0) 1 1 [s_ wr.heap.size ns.length ns.length] (by rfl) rfl Dj.o (fun u hu=>by simp at hu;subst hu;rfl) (by omega) (by unfold maxLen;omega) (by omega) OI.o (wr.heap.size+1+1) (by simp) ?_
    all_goals
     intro g2 fE w2 dw bS jH kV;clear jH kV;refine hK.out _ _ trivial (fun dF=>?_);clear hK K;have kD:=dR G2.o.own G2.o.b (by decide) bS;have k1:=bP 1 kD rfl;have Ee:=bL kD 1
     try simp only [nU,Act.put]
     refine bW 9 ?_
     refine bW 10 ?_
     refine fq 11 (fun K hK=>?_)
     go_simp
     refine hK.out _ _ trivial (fun dF=>?_);clear hK K;refine wpAnyH_done (by kernel_rfl) ?_ _;have G3:=bK (GP.add HG.o dw bS);clear dF kD k1 Ee dw bS;go_wp2;go_roundg (ns.length-(gs.length+1))
     case measure=>omega
     case rel=>exact⟨gs.length+1,gs++[wr.heap.size],_,by omega,rfl,by go_num,by simp,G3.o⟩
  .have d1:=mM gs.length ns.length;have EL:Hid (gs.length=ns.length):=by show _=_;omega
   have WM:Hid (xI.length=ls.length):=HA.o.n;have hms:=acg xI.length (by have:=WM.o;omega);obtain⟨gf,abx,evf,_,_⟩:=dJ hG.own (by omega);have b1:B_ wr (wr.alloc (c_ (qM ns.length (fun _=>false)).toArray 4)):=mi _;have b2:B_ wr ((wr.alloc (c_ (qM ns.length (fun _=>false)).toArray 4)).alloc (c_ (Array.replicate xI.length n_) 203)):=b1.alloc (by simp) _;have c2:=bP 2 ((HD.o.below hG.be).below b1).rb rfl;have c2':=bP 2 ((HD.o.below hG.be).below b2).rb rfl
   have M0:Hid (ML w ls mode g w.heap.size (w.heap.size+1) gf abx ns.length (wr.heap.size+1) wr.heap.size 0 wr.heap.size gs (List.replicate xI.length n_) ((wr.alloc (c_ (qM ns.length (fun _=>false)).toArray 4)).alloc (c_ (Array.replicate xI.length n_) 203))):=by
    have G1:=hG.below b2;have h1:=hn_ wr (c_ (qM ns.length (fun _=>false)).toArray 4);have h2:=hn_ (wr.alloc (c_ (qM ns.length (fun _=>false)).toArray 4)) (c_ (Array.replicate xI.length n_) 203);rw [wa_] at h2;have ow:=G1.own;have gb:=G1.b;rw [evf,EL.o] at ow gb;have upg:∀g'∈gs,g'<wr.heap.size:=fun g' hg=>bO (hG.row g' hg)
    have evl:gf<wr.heap.size:=by have:=(ol_ hG.own gf (by rw [evf];rfl)).2;exact this
    refine⟨G1.be,⟨gb,dH ow (zl_ _),EL.o,fun j g' hj=>(G1.row g' (mg_ hj)).congr (fun _ _=>rfl),G1.nd⟩,?_,h2,by rw [lp_];exact WM.o,fun j x hj=>⟨n_,?_,fun c=>absurd c.1 (Nat.not_lt_zero _),fun _=>rfl⟩,G1.aY,G1.rl,upg,di,by omega,hG.be.size,fun g' hg=>?_,evl⟩
    .exact Bl.congr (f:=fun _=>false) (dx h1 _) (fun _ _=>rfl)
    .rw [List.getElem?_replicate_of_lt (by rw [WM.o];exact Pu.mY hj)]
    .exact hG.lo g' hg
   clear hG b1 b2 evf HG
   go_wp2_with fail
   clear c2 c2' hmk hms;generalize (wr.alloc (c_ (qM ns.length (fun _=>false)).toArray 4)).alloc (c_ (Array.replicate xI.length n_) 203)=W2 at *;generalize wr.heap.size=B1 at *
   go_loopg [8,10,11] ls.length (fun gk fv iv _ wx=>∃(i gF:Nat) (Kq:List V_),i<=ls.length/\gk=ls.length-i/\fv=cZ gF ns.length/\iv=I_ i/\ML w ls mode g w.heap.size (w.heap.size+1) gf abx ns.length (B1+1) B1 i gF gs Kq wx)
   case atStart=>exact⟨0,B1,_,zl_ _,rfl,rfl,rfl,M0.o⟩
   case round=>
    clear M0;obtain⟨i,gF,Kq,il2,rfl,rfl,rfl,hM⟩:=hrel;have c2:=bP 2 (HD.o.below hM.be).rb rfl;by_cases hi:i<ls.length
    .have d2:decide ((i:Int)<xI.length)=true:=dt_ (by have:=WM.o;omega);have wi:=kg i;have ii0:=jg i;have ii1:(i:Int)<xI.length:=by have:=WM.o;omega
     have ii2:(i:Int)<ls.length:=by omega
     obtain⟨x,hx⟩:=qG ls i hi;have Mi:=HA.o.get i x hx;have hL2:=bU HL.o hM.be di;obtain⟨gv,cv,ev,_,_⟩:=dJ hL2 (by have:=WM.o;omega);cases ev;have aW:wr.cell? (a_ gv (i*5))=some (I_ x.mode):=bT hL2 (pG Mi (j:=0) (by omega));have q4:wr.cell? (a_ gv (i*5+4))=some (I_ ((dK (ls.take i)+x.re.size-1:Nat):Int)):=bT hL2 (pG Mi (j:=4) (by omega));by_cases hm:x.mode=mode
     .have dm:decide (x.mode=mode)=true:=dt_ hm;have fw:=bK (Qb B g aS s ns (.slice an ns.length cn) (s_ gv xI.length cl) modes down hn (w.heap.size+1) gf abx gs x.re (dK (ls.take i)) (Eh ls mode i) wr (HD.o.below hM.be) hM.gf' (HA.o.net.at' i x hx));have HM:=bK hM;have HX:=bK hx;clear Mi hL2 hM hx
      go_wp2_with fail
      refine fw.o.mono ?_
      clear fw c2 aW q4;rintro e w3 ⟨ga,gb,rfl,hk,hf,la,lb,ba,bb⟩;have L1:Hid (B1<=wr.heap.size):=by have:=bO HM.o.la;have:=HM.o.lo;show _<=_;omega
      have hbw:=jo w3 x.re.iM (cZ ga ns.length) (cZ gb ns.length);have FI:Hid (Bl (yY w3 x.re.iM (cZ ga ns.length) (cZ gb ns.length)) gF ns.length (Cn ls mode i)):=by have h1:=hk.fA HM.o.fi (fun e=>by have:=HM.o.up _ e;have:=HM.o.fl;omega);exact bN h1 hbw (bO h1)
      have BA:Hid (Bl (yY w3 x.re.iM (cZ ga ns.length) (cZ gb ns.length)) ga ns.length (Pu.Gy x.re (dK (ls.take i)))):=bN ba hbw (bO ba);have KM:=bK (uY w3 x.re.iM (cZ ga ns.length) (cZ gb ns.length));have BW:=bK hbw;have NEXT:=bK (fun gF' W2 (hb:B_ w3 W2) h1 h2 h3=>HM.o.marked hk hf HX.o hm (fun _ _=>rfl) (gF':=gF') hb h1 h2 h3 (show B1<=gb by have:=L1.o;omega));have BB:=bK bb;have SZ:Hid (wr.heap.size<=w3.heap.size):=hk.size;have LAX:Hid (dh w3 (B1+1) 203 Kq):=hk.fA HM.o.la (fun e=>by have:=HM.o.up _ e;omega);have LLN:Hid (Kq.length=xI.length):=by rw [WM.o];exact HM.o.ll
      clear hk hf la lb ba bb HM hbw;go_upto_region 14 with (fail);rw [show w3.alloc (c_ #[.bool x.re.iM,cZ ga ns.length,cZ gb ns.length] 205)=yY w3 x.re.iM (cZ ga ns.length) (cZ gb ns.length) from rfl];generalize yY w3 x.re.iM (cZ ga ns.length) (cZ gb ns.length)=W4 at *;have m1:=bP 1 KM.o rfl
      go_wp2_with fail
      refine (uu ns.length gF ga (Cn ls mode i) (Pu.Gy x.re (dK (ls.take i))) W4 FI.o BA.o hn).mono ?_
      clear m1;rintro e w5 ⟨gF',rfl,hb5,l5,b5⟩;have BT:Hid (B_ w3 w5):=BW.o.trans (hb5.mono BW.o.size);have M5:=bK (NEXT.o gF' w5 BT.o b5 (by have:=L1.o;have:=SZ.o;have:=BW.o.size;omega) (bN BB.o BT.o (bO BB.o)));have K5:=bK (bN KM.o hb5 (bO KM.o));have A5:=bK (bN LAX.o BT.o (bO LAX.o));have m2:=bP 2 K5.o rfl;obtain⟨u,hu⟩:∃u,Kq[i]?=some u:=⟨_,gg_ (by rw [LLN.o];omega)⟩;have a5:=bM A5.o hu;have f5:=bL A5.o i;clear hb5 l5 b5 NEXT FI BA KM BW BB SZ LAX BT hu;go_wp2;go_roundg (ls.length-(i+1))
      case measure=>omega
      case rel=>exact⟨i+1,gF',_,by omega,rfl,rfl,by go_num,M5.o⟩
     .have dm:decide (x.mode=mode)=false:=dn_ hm;have M2:=bK (hM.skip hx hm);clear Mi hL2 hM hx;go_wp2;go_roundg (ls.length-(i+1))
      case measure=>omega
      case rel=>exact⟨i+1,gF,Kq,by omega,rfl,rfl,by go_num,M2.o⟩
    .have d2:decide ((i:Int)<xI.length)=false:=dn_ (by have:=WM.o;omega);have hi2:¬i<xI.length:=by have:=WM.o;omega
     have e:i=ls.length:=by omega
     have fw:=bK (Ls B g aS s ns (.slice an ns.length cn) (.slice al xI.length cl) modes down hn wr (HD.o.below hM.be));rw [e] at hM;have HM:=bK hM;clear hM e
     go_wp2_with fail
     refine fw.o.mono ?_
     clear fw c2;rintro e w3 ⟨vk,rfl,hb3,ok3⟩;have M3:=bK (HM.o.below hb3);have OK3:=bK (dH ok3 (zl_ _))
     have Z3:Hid (MS w3 ns.length w3.heap.size n_ n_ n_ [] [] [] [] (w3.alloc (c_ #[n_,n_,n_] 163))):=
      ⟨mi _,hn_ _ _,⟨fT _ _ _ _,rfl,fun i g f h1 h2=>by simp at h1⟩,fT _ _ _ _,fT _ _ _ _,di⟩
     clear HM hb3 ok3;go_upto_region 18 with (fail);generalize w3.alloc (c_ #[n_,n_,n_] 163)=W4 at *
     go_cut [] from 14 (fun wx=>∃v2 gN,MS w3 ns.length w3.heap.size v2 n_ n_ [gN] [fun _=>false] [] [] wx)
     case first=>
      have hmk:=qx ns.length hn;have G2:=bK (Z3.o.below (jC W4 ns.length));have yz:Hid (∀j u,[s_ W4.heap.size ns.length ns.length][j]?=some u->(qV W4 ns.length).cell? ((⟨(W4.alloc (c_ (qM ns.length (fun _=>false)).toArray 4)).heap.size,0,none⟩:Addr).add j)=some u):=World.news_of_block (cs:=#[s_ W4.heap.size ns.length ns.length]) (t:=203) (fr:=(0,0)) (zT _ _);have Dj:Hid (∀j u,[s_ W4.heap.size ns.length ns.length][j]?=some u->(qV W4 ns.length).cell? (((a_ (W4.heap.size+1) 0):Addr).add j)=some u):=by have:=yz.o;rw [wa_] at this;exact this
      have c0:=bP 0 Z3.o.b rfl;have c0m:=bP 0 (dx Z3.o.b (c_ (qM ns.length (fun _=>false)).toArray 4)) rfl;have c0':=bP 0 G2.o.b rfl;have OI:Hid (w3.heap.size<=(qV W4 ns.length).heap.size):=lt_ Z3.o.be.size (jC _ _).size;clear Z3 M3 OK3;refine wd_ (S:=fun _=>True) (by kernel_rfl) trivial (fun dF=>?_);refine bW 0 ?_
      refine bW 2 ?_
      refine xY 1 3 (fun K hK=>?_) (fun K hK=>?_)
      all_goals
       go_simp
       refine hK.out _ _ trivial (fun dF=>?_);clear hK K
       try simp only [nU,Act.put]
      .refine fq 3 (fun K hK=>?_)
       go_simp
       refine hK.out _ _ trivial (fun dF=>?_);clear hK K
       try simp only [nU,Act.put]
       refine fq 4 (fun K hK=>?_);refine eQ 102 203 0 (.tmp 98) (s_ W4.heap.size ns.length ns.length) rfl rfl #[s_ W4.heap.size ns.length ns.length] il _ 1 Tryz.underlying102 hil hl0 hl1 (by omega) (by omega) (tC _ _ _) ?_
       refine hK.out _ _ trivial (fun dF=>?_);clear hK K
       try simp only [nU,Act.put]
       refine fq 5 (fun K hK=>?_);refine sa_ _ (by rfl) _ _ _ (by rfl) w3.heap.size 203 il _ 1 24 Tryz.underlying102 hil hl0 hl1 hl2 rfl (by omega) n_ 0 [] (by rfl) G2.o.s.own ⟨(W4.alloc (c_ (qM ns.length (fun _=>false)).toArray 4)).heap.size,0,none⟩ 1 1 [s_ W4.heap.size ns.length ns.length] (by rfl) rfl yz.o (fun u hu=>by simp at hu;subst hu;rfl) (by omega) (by unfold maxLen;omega) (by omega) OI.o (W4.heap.size+1+1) (by simp) ?_
       intro g2 fE w2 dw bS jH kV;clear jH kV;refine hK.out _ _ trivial (fun dF=>?_);clear hK K;have kD:=dR G2.o.s.own G2.o.b (by decide) bS;have k1:=bP 0 kD rfl;have Ee:=bL kD 0
       try simp only [nU,Act.put]
       refine bW 6 ?_
       refine fq 7 (fun K hK=>?_)
       go_simp
       refine hK.out _ _ trivial (fun dF=>?_);clear hK K;refine wpAnyH_done (by kernel_rfl) ?_ _;have G3:=bK (MS.aea G2.o (xx W4 ns.length) dw bS);clear dF kD k1 Ee dw bS
       go_wp2_with fail
       go_meet
       case rel=>exact⟨_,_,G3.o⟩
      .refine xY 1 4 (fun K hK=>?_) (fun K hK=>?_)
       focus
        go_simp
        refine hK.out _ _ trivial (fun dF=>?_);clear hK K
        try simp only [nU,Act.put]
        refine fq 4 (fun K hK=>?_)
       rotate_left
       rotate_left
       all_goals
        refine eQ 102 203 0 (.tmp 98) (s_ W4.heap.size ns.length ns.length) rfl rfl #[s_ W4.heap.size ns.length ns.length] il _ 1 Tryz.underlying102 hil hl0 hl1 (by omega) (by omega) (tC _ _ _) ?_
        refine hK.out _ _ trivial (fun dF=>?_);clear hK K
        try simp only [nU,Act.put]
       focus
        refine fq 5 (fun K hK=>?_);refine sa_ _ (by rfl) _ _ _ (by rfl) w3.heap.size 203 il _ 1 24 Tryz.underlying102 hil hl0 hl1 hl2 rfl (by omega) n_ 0 [] (by rfl) G2.o.s.own ⟨(W4.alloc (c_ (qM ns.length (fun _=>false)).toArray 4)).heap.size,0,none⟩ 1 1 [s_ W4.heap.size ns.length ns.length] (by rfl) rfl yz.o (fun u hu=>by simp at hu;subst hu;rfl) (by omega) (by unfold maxLen;omega) (by omega) OI.o (W4.heap.size+1+1) (by simp) ?_
       rotate_left
       focus
        refine fq 1 (fun K hK=>?_)
        go_simp
        refine hK.out _ _ trivial (fun dF=>?_);clear hK K
        try simp only [nU,Act.put]
        refine fq 5 (fun K hK=>?_);refine sa_ _ (by rfl) _ _ _ (by rfl) w3.heap.size 203 il _ 1 24 Tryz.underlying102 hil hl0 hl1 hl2 rfl (by omega) n_ 0 [] (by rfl) G2.o.s.own (a_ (W4.heap.size+1) 0) 1 1 [s_ W4.heap.size ns.length ns.length] (by rfl) rfl Dj.o (fun u hu=>by simp at hu;subst hu;rfl) (by omega) (by unfold maxLen;omega) (by omega) OI.o (W4.heap.size+1+1) (by simp) ?_
       all_goals
        intro g2 fE w2 dw bS jH kV;clear jH kV;refine hK.out _ _ trivial (fun dF=>?_);clear hK K;have kD:=dR G2.o.s.own G2.o.b (by decide) bS;have k1:=bP 0 kD rfl;have Ee:=bL kD 0
        try simp only [nU,Act.put]
        refine bW 6 ?_
        refine fq 7 (fun K hK=>?_)
        go_simp
        refine hK.out _ _ trivial (fun dF=>?_);clear hK K;refine wpAnyH_done (by kernel_rfl) ?_ _;have G3:=bK (MS.aea G2.o (xx W4 ns.length) dw bS);clear dF kD k1 Ee dw bS
        go_wp2_with fail
        go_meet
        case rel=>exact⟨_,_,G3.o⟩
     case rest=>
      obtain⟨v2,gN,hZ⟩:=hcut;have Z5:=bK hZ;clear hZ Z3;obtain⟨ak,ck,rfl,_,_⟩:=dS OK3.o;have RL:=IE ns 256;have RLT:=bK (NH ns 256);generalize hR:ni ns 256=R at *;have HR:=bK hR;clear hR;generalize hgo:w3.heap.size=go at *
      go_wp2_with fail
      go_loopg [14,15,16,17,18,19,20,21,22] 44 (fun gk kv _ _ _ _ _ _ _ _ wx=>∃(k:Nat) (vS vT vR:V_) (vM:List Nat) (S:List (Nat->Bool)) (ts rs:List V_),k<=41/\gk=44-k/\kv=I_ k/\MS w3 ns.length go vS vT vR vM S ts rs wx/\tO ns (Cn ls mode ls.length) (Eh ls mode ls.length) (44-k) k S=vE ls ns mode/\vM.length<=300/\0<vM.length/\ts.length=k/\rs.length=k)
      case atStart=>exact⟨0,_,_,_,_,_,_,_,by omega,rfl,rfl,Z5.o,rfl,by simp,by simp,rfl,rfl⟩
      case round=>
       clear Z5;obtain⟨k,vS,vT,vR,vM,S,ts,rs,k41,rfl,rfl,hM,hG,l300,akr,tl,rl⟩:=hrel;obtain⟨gS,cS,evS,_,_⟩:=dJ hM.s.own akr;subst evS;obtain⟨aT,cT,rfl,_,_⟩:=dS hM.t;obtain⟨aR,cR,rfl,_,_⟩:=dS hM.r;have HM:=bK hM;have HG:=bK hG;have TL:=bK tl;have RL2:=bK rl;have c0:=bP 0 hM.b rfl;have abh:Hid (vM.length=S.length):=hM.s.len;clear hM hG tl rl;by_cases h1:k<vM.length
       .have d3:=nV k vM.length;by_cases h2:vM.length<=41
        .have d4:decide ((vM.length:Int)<=41)=true:=dt_ (by omega);obtain⟨Bt,hBt⟩:∃Bt,Bt=wr.heap.size:=⟨_,rfl⟩;have BT:Hid (w3.heap.size<=Bt):=by have:=HM.o.be.size;show _<=_;omega
         have IY:Hid (∀b,(Value.slice aR rs.length cR).ownBlock=some b->b<Bt):=fun b e=>by have:=(ol_ HM.o.r b e).2;omega
         have HBT:=bK hBt;clear hBt
         go_wp2_with fail
         go_loopg [15,16,17,18,19] R.length (fun gk tv jv _ _ _ wx=>∃(j:Nat) (vS':V_) (oL:List Nat) (S':List (Nat->Bool)) (xs:List V_),j<=R.length/\gk=R.length-j/\jv=I_ j/\MS w3 ns.length go vS' (.slice aT ts.length cT) (.slice aR rs.length cR) oL S' ts rs wx/\wx.ownsRow Bt 3 1 tv xs.length xs/\Bt<=wx.heap.size/\S'=(R.take j).foldl (fun Q c=>qE ns.length Q (mP ns (Cn ls mode ls.length) (Eh ls mode ls.length) (Cu S k) (decide (k=0)) c)) S/\(∃more,oL=vM++more/\more.length<=j)/\(∃more,S'=S++more)/\xs.length<=j)
         case atStart=>exact⟨0,_,_,_,[],zl_ _,rfl,rfl,HM.o,fT _ _ _ _,Nat.le_of_eq HBT.o,rfl,⟨[],by simp,di⟩,⟨[],by simp⟩,di⟩
         case round=>
          clear HM c0;obtain⟨j,vS',oL,S',xs,jl,rfl,rfl,hM,ho,hB,hS,⟨more,hm1,hm2⟩,⟨aeJ,hs1⟩,xl⟩:=hrel;by_cases hj:j<R.length
          .have d5:=nV j R.length;have wj:=kg j;have ij0:=jg j;have ij1:(j:Int)<R.length:=by omega
           have Mr:=jg k;obtain⟨d,hd⟩:=qG R j hj;have hdl:d<256:=RLT.o d (mg_ hd);have gl1:oL.length=vM.length+more.length:=by rw [hm1,la_]
           have Ij:(k:Int)<oL.length:=by omega
           obtain⟨gS',cS',evS,_,_⟩:=dJ hM.s.own (by omega);subst evS;obtain⟨gsk,Km⟩:∃q,oL[k]?=some q:=⟨_,gg_ (by omega)⟩
           have hSk:S'[k]?=some (Cu S k):=by
            have:k<S.length:=by have:=abh.o;omega
            rw [hs1,al_ this];unfold Cu;rw [gd_,gg_ this];rfl
           have aeW:=hM.s.row k gsk _ Km hSk;obtain⟨gk,ck',evk,_,_⟩:=dJ OK3.o (by omega);cases evk;have c0:=bP 0 hM.b rfl;have ok4:=bU OK3.o hM.be di;have c1:=bT hM.s.own (eY Km);have c2:=bT ok4 (iD hd);have M4:=M3.o.below hM.be;have D4:=HD.o.below M4.be;generalize hst:mP ns (Cn ls mode ls.length) (Eh ls mode ls.length) (Cu S k) (decide (k=0)) d=st at *;have fw:Hid (∀W,B_ wr W->C_ 99 #[p_ (w.heap.size+1),cZ gF ns.length,cZ gsk ns.length,.bool (decide ((k:Int)=0)),I_ d] W (Ry ns.length st W)):=fun W hb=>by have:=aal B g aS s ns (.slice an ns.length cn) (.slice al xI.length cl) modes down hn (w.heap.size+1) gf abx gF gsk gs (Eh ls mode ls.length) (Cn ls mode ls.length) (Cu S k) (decide ((k:Int)=0)) d hdl W (D4.below hb) (M4.gf'.below hb) (bN M4.fi hb (bO M4.fi)) (bN aeW hb (bO aeW));rw [show decide ((k:Int)=0)=decide (k=0) by rw [decide_eq_decide];omega] at this |-;rw [hst] at this;exact this
           have FN:=bK (Pv ns.length (fun c=>mP ns (Cn ls mode ls.length) (Eh ls mode ls.length) (Cu S k) (decide (k=0)) c) R S hd);have HM2:=bK hM;have Cf:=bK ho;have HS2:=bK hS;have HB2:=bK hB;have HST:=bK hst;have Xl:=bK hm2;have vJ:Hid (∀W,B_ wr W->(W.cell? (a_ go 0)=some (s_ gS' oL.length cS')/\W.cell? (a_ gS' k)=some (s_ gsk ns.length ns.length)/\W.cell? (a_ gk j)=some (I_ d))):=fun W hb=>⟨bM (j:=0) (hM.below hb).b rfl,bT (hM.below hb).s.own (eY Km),bT (bU ok4 hb di) (iD hd)⟩
           have GL1:=bK (And.intro gl1 hm1);have Ai:=bK hs1;clear hM ho hS ok4 M4 D4 aeW hSk hs1 hd hst gl1 hm1 hm2 hB
           go_wp2_with fail
           have S1:=vJ.o wr.drew ((Br_ _ _).drew);refine wd_ (S:=fun w'=>w'.cell? (a_ go 0)=some (s_ gS' oL.length cS')/\w'.cell? (a_ gS' k)=some (s_ gsk ns.length ns.length)/\w'.cell? (a_ gk j)=some (I_ d)) (by kernel_rfl) S1 (fun dF=>?_);refine bW 0 ?_
           refine bW 1 ?_
           refine bW 2 ?_
           refine bW 3 ?_
           refine bW 4 ?_
           refine bW 5 ?_
           refine bW 6 ?_
           refine bW 7 ?_
           refine bW 8 ?_
           refine bW 9 ?_
           refine bW 10 ?_
           refine bW 11 ?_
           refine bW 12 ?_
           refine fq 13 (fun K hK=>?_)
           go_simp
           refine (fw.o _ ((Br_ _ _).drew)).mono ?_
           rintro e w4 ⟨YH,rfl,hb4,l4,b4⟩;have YP:B_ wr w4:=((Br_ wr.heap.size wr).drew).trans hb4
           go_simp
           refine hK.out _ _ (vJ.o _ YP) (fun fV=>?_);clear hK K
           try simp only [nU,Act.put]
           refine bW 14 ?_
           refine wpAnyH_done (by kernel_rfl) ?_ _;have M5:=bK (HM2.o.below YP);have O5:=bK (bU Cf.o YP di);have N5:=bK b4;have B5:Hid (Bt<=w4.heap.size):=by have:=YP.size;have:=HB2.o;show _<=_;omega
           clear dF fV S1 hb4 YP l4 b4 HM2 Cf HB2 fw vJ c0 c1 c2
           go_wp2_with fail
           refine (Uy ns.length YH st w4 N5.o hn).mono ?_
           rintro e w5 ⟨rfl,hb5⟩;have M6:=bK (M5.o.below hb5);have O6:=bK (bU O5.o hb5 di);have N6:=bK (bN N5.o hb5 (bO N5.o));have B6:Hid (Bt<=w5.heap.size):=by have:=hb5.size;have:=B5.o;show _<=_;omega
           clear hb5 M5 O5 N5 B5;by_cases hz:rG st ns.length=0
           .have EQ:Hid (S'=(R.take (j+1)).foldl (fun Q c=>qE ns.length Q (mP ns (Cn ls mode ls.length) (Eh ls mode ls.length) (Cu S k) (decide (k=0)) c)) S):=by show _=_;rw [FN.o,<-HS2.o,HST.o,Ql hz]
            rw [hz];clear hz FN HS2 HST N6
            go_wp2_with (at_builtin;go_must (refine jr rfl (.tmp 139) (.tmp 140) 31 3 rfl (I_ 0) 8 Tryz.underlying31 xN rfl (by decide) Bt _ xs rfl (oa_ O6.o _) w5.heap.size (I_ (-1)) rfl (hn_ _ _) rfl (by omega) (by have:=B6.o;simp;omega) ?_);intro v9 w9 hown9 pM)
            have M9:=bK ((M6.o.below ((Br_ w5.heap.size w5).alloc di (c_ #[(I_ (-1))] 3))).grow (oa_ O6.o _) IY.o BT.o pM);have O9:=bK hown9;have B9:Hid (Bt<=w9.heap.size):=by have h1:=pM.size;have h2:=B6.o;rw [wa_] at h1;show _<=_;omega
            clear hown9 pM M6 O6 B6;go_roundg (R.length-(j+1))
            case measure=>omega
            case rel=>exact⟨j+1,_,oL,S',_,by omega,rfl,by go_num,M9.o,O9.o,B9.o,EQ.o,⟨more,GL1.o.2,by have:=Xl.o;omega⟩,⟨aeJ,Ai.o⟩,by simp;omega⟩
           .skip
            obtain⟨f0,fs,hfs⟩:∃f0 fs,S'=f0::fs:=by
             have h0:=M6.o.s.len
             cases hc:S' with
             | nil=>rw [hc] at h0;have h1:oL.length=0:=h0;have:=GL1.o.1;omega
             | cons a b=>exact⟨a,b,rfl⟩
            have PL:=bK (VT w3.heap.size ns.length YH _ oL f0 fs st w5 (by rw [<-hfs];exact M6.o.s) N6.o hn (by have h1:=M6.o.s.len;rw [hfs,lc_] at h1;have:=GL1.o.1;have:=Xl.o;omega));have c0:=bP 0 M6.o.b rfl;have HZ:=bK hz;have HFS:=bK hfs;have hci:((rG st ns.length:Nat):Int)≠0:=by omega
            generalize ((rG st ns.length:Nat):Int)=ci at hci |-;have hci2:¬ci=0:=hci;have hci3:(ci == 0)=false:=by simp [hci]
            clear hfs hz
            go_wp2_with fail
            refine PL.o.mono ?_
            clear PL c0;rintro e w6 ⟨rfl,hb6⟩;have M7:=bK (M6.o.below hb6);have O7:=bK (bU O6.o hb6 di);have N7:=bK (bN N6.o hb6 (bO N6.o));have B7:Hid (Bt<=w6.heap.size):=by have:=hb6.size;have:=B6.o;show _<=_;omega
            clear hb6 M6 O6 N6 B6;have TLS:Hid (S'.tail=fs):=by show _=_;rw [HFS.o];rfl
            by_cases hp:GK ns.length st fs 1<0
            .have EQ:Hid (S'++[st]=(R.take (j+1)).foldl (fun Q c=>qE ns.length Q (mP ns (Cn ls mode ls.length) (Eh ls mode ls.length) (Cu S k) (decide (k=0)) c)) S):=by show _=_;rw [FN.o,<-HS2.o,HST.o,VF HZ.o (by rw [TLS.o];exact hp)]
             clear FN HS2 HST TLS HZ HFS;generalize GK ns.length st fs 1=at' at hp |-;have dp:decide (at'<0)=true:=dt_ hp;have qm:B_ w6 (w6.alloc (c_ #[cZ YH ns.length] 203)):=mi _;have Ow:=bK (M7.o.below qm);have OA8:=bK (bU O7.o qm di);have NA8:Hid (Bl (w6.alloc (c_ #[cZ YH ns.length] 203)) YH ns.length st):=bN N7.o qm (bO N7.o);have OWS:Hid ((w6.alloc (c_ #[cZ YH ns.length] 203)).ownsRow w3.heap.size 203 1 (s_ gS' oL.length cS') (mX ns.length oL).length (mX ns.length oL)):=by rw [wM];exact Ow.o.s.own
             have GLN:oL.length<=1000:=by have:=GL1.o.1;have:=Xl.o;omega
             have SZA:Hid (w3.heap.size<=(w6.alloc (c_ #[cZ YH ns.length] 203)).heap.size):=Ow.o.be.size;have c0:=bP 0 M7.o.b rfl;have c0a:=bP 0 Ow.o.b rfl;have B7':Hid (Bt<=(w6.alloc (c_ #[cZ YH ns.length] 203)).heap.size):=by have:=B7.o;have:=qm.size;show _<=_;omega
             clear M7 O7 N7 B7 qm;go_upto_region 34 with (at_builtin;go_must (refine jr rfl (.tmp 152) (.tmp 154) 102 203 rfl n_ 24 Tryz.underlying102 zm rfl (by decide) w3.heap.size _ (mX ns.length oL) rfl OWS.o w6.heap.size (cZ YH ns.length) rfl (hn_ _ _) rfl (by rw [wM];exact GLN) SZA.o ?_);intro v8 w8 jd eO;have AR:=dR Ow.o.s.own Ow.o.b (by decide) eO;have k8:=bM (j:=0) AR rfl;have f8:=bL AR 0;have wV:=bK jd;obtain⟨a8,c8,ev8,_,_⟩:=dS jd;rw [la_,List.length_singleton] at ev8;subst ev8;clear jd);have U4:=gs_ w8 go 0 (.slice a8 ((mX ns.length oL).length+1) c8);have M8:=bK (MS.aea Ow.o NA8.o wV.o eO);have O8:=bK (dA (fI OA8.o Ow.o.s.own (by decide) eO) AR (by decide) U4);have B8:Hid (Bt<=(w8.setCell (a_ go 0) (.slice a8 ((mX ns.length oL).length+1) c8)).heap.size):=lt_ B7'.o (lt_ eO.size U4.size);clear AR k8 f8 wV eO U4 Ow OA8 NA8 OWS SZA c0 c0a B7';generalize w8.setCell (a_ go 0) (.slice a8 ((mX ns.length oL).length+1) c8)=w9 at *
             go_wp2_with (at_builtin;go_must (refine jr rfl (.tmp 157) (.tmp 159) 31 3 rfl (I_ 0) 8 Tryz.underlying31 xN rfl (by decide) Bt _ xs rfl (oa_ O8.o _) w9.heap.size (I_ oL.length) rfl (hn_ _ _) rfl (by omega) (by have:=B8.o;simp;omega) ?_);intro v9 w10 hown9 pM)
             have M9:=bK ((M8.o.below ((Br_ w9.heap.size w9).alloc di (c_ #[I_ oL.length] 3))).grow (oa_ O8.o _) IY.o BT.o pM);have O9:=bK hown9;have B9:Hid (Bt<=w10.heap.size):=by have h1:=pM.size;have h2:=B8.o;rw [wa_] at h1;show _<=_;omega
             clear hown9 pM M8 O8 B8;go_roundg (R.length-(j+1))
             case measure=>omega
             case rel=>exact⟨j+1,_,oL++[YH],S'++[st],_,by omega,rfl,by go_num,M9.o,O9.o,B9.o,EQ.o,⟨more++[YH],by rw [GL1.o.2,aa_],by have:=Xl.o;simp;omega⟩,⟨aeJ++[st],by rw [Ai.o,aa_]⟩,by simp;omega⟩
            .have dp:decide (GK ns.length st fs 1<0)=false:=dn_ hp;have EQ:Hid (S'=(R.take (j+1)).foldl (fun Q c=>qE ns.length Q (mP ns (Cn ls mode ls.length) (Eh ls mode ls.length) (Cu S k) (decide (k=0)) c)) S):=by show _=_;rw [FN.o,<-HS2.o,HST.o,VG HZ.o (by rw [TLS.o];exact hp)]
             clear hp FN HS2 HST N7 TLS HZ HFS;generalize GK ns.length st fs 1=at' at *
             go_wp2_with (at_builtin;go_must (refine jr rfl (.tmp 157) (.tmp 159) 31 3 rfl (I_ 0) 8 Tryz.underlying31 xN rfl (by decide) Bt _ xs rfl (oa_ O7.o _) w6.heap.size (I_ at') rfl (hn_ _ _) rfl (by omega) (by have:=B7.o;simp;omega) ?_);intro v9 w9 hown9 pM)
             have M9:=bK ((M7.o.below ((Br_ w6.heap.size w6).alloc di (c_ #[(I_ at')] 3))).grow (oa_ O7.o _) IY.o BT.o pM);have O9:=bK hown9;have B9:Hid (Bt<=w9.heap.size):=by have h1:=pM.size;have h2:=B7.o;rw [wa_] at h1;show _<=_;omega
             clear hown9 pM M7 O7 B7;go_roundg (R.length-(j+1))
             case measure=>omega
             case rel=>exact⟨j+1,_,oL,S',_,by omega,rfl,by go_num,M9.o,O9.o,B9.o,EQ.o,⟨more,GL1.o.2,by have:=Xl.o;omega⟩,⟨aeJ,Ai.o⟩,by simp;omega⟩
          .have d5:=mM j R.length;have ej:j=R.length:=by omega
           have NXT:Hid (tO ns (Cn ls mode ls.length) (Eh ls mode ls.length) (44-(k+1)) (k+1) S'=vE ls ns mode):=by
            show _=_;rw [<-HG.o,show 44-k=(43-k)+1 by omega,show 44-(k+1)=43-k by omega]
            conv=>rhs;unfold tO
            rw [if_pos (by have:=abh.o;omega),hS,ej,List.take_length,HR.o];rfl
           obtain⟨at2,ct2,evt,_,_⟩:=dS ho;subst evt;have qm:B_ wr (wr.alloc (c_ #[.slice at2 xs.length ct2] 31)):=mi _;have Ow:=bK (hM.below qm);have SZA:Hid (w3.heap.size<=(wr.alloc (c_ #[.slice at2 xs.length ct2] 31)).heap.size):=Ow.o.be.size;have c1:=bP 1 hM.b rfl;have c1a:=bP 1 Ow.o.b rfl;have TL2:ts.length<=1000:=by have:=TL.o;omega
           have GLX:Hid (oL.length<=300/\0<oL.length):=by rw [hm1,la_];exact⟨by omega,by omega⟩
           have GLK:Hid (k<oL.length):=by rw [hm1,la_];show _<_;omega
           clear hM ho hS qm hm1 hs1 ej;go_upto_region 36 with (at_builtin;go_must (refine jr rfl (.tmp 162) (.tmp 164) 27 31 rfl n_ 24 Tryz.underlying27 Ve rfl (by decide) w3.heap.size _ ts rfl Ow.o.t wr.heap.size (.slice at2 xs.length ct2) rfl (hn_ _ _) rfl TL2 SZA.o ?_);intro v8 w8 jd eO;have AR:=dR Ow.o.t Ow.o.b (by decide) eO;have k8:=bM (j:=1) AR rfl;have f8:=bL AR 1;have wV:=bK jd;obtain⟨a8,c8,ev8,_,_⟩:=dS jd;rw [la_,List.length_singleton] at ev8;subst ev8;clear jd);have M8:=bK (MS.ajA Ow.o wV.o eO);clear AR k8 f8 wV eO Ow SZA c1 c1a;generalize w8.setCell (a_ go 1) (.slice a8 (ts.length+1) c8)=w9 at *;have ML9:=bK (M3.o.below M8.o.be);have wl:IntKind.i64.wrap ((xI.length:Int)-1)=(xI.length:Int)-1:=oG _ (by omega) (by have:=WM.o;omega);obtain⟨gsk,Km⟩:∃q,oL[k]?=some q:=⟨_,gg_ GLK.o⟩;obtain⟨fk,hfk⟩:∃q,S'[k]?=some q:=⟨_,gg_ (by rw [<-M8.o.s.len];exact GLK.o)⟩;obtain⟨gS',cS',evS,_,_⟩:=dJ M8.o.s.own GLX.o.2;subst evS;have CK9:Hid (w9.cell? (a_ go 0)=some (s_ gS' oL.length cS')/\w9.cell? (a_ gS' k)=some (s_ gsk ns.length ns.length)/\Bl w9 gsk ns.length fk):=⟨bM (j:=0) M8.o.b rfl,bT M8.o.s.own (eY Km),M8.o.s.row k gsk fk Km hfk⟩;have IK1:Hid ((k:Int)<oL.length):=by have:=GLK.o;show _<_;omega
           clear Km hfk
           go_wp2_with fail
           go_loopg [20,21,22] xI.length (fun gk rv iv _ wx=>∃(i':Nat) (r:Int),i'<=xI.length/\gk=i'/\rv=I_ r/\iv=I_ ((i':Int)-1)/\wx=w9)
           case atStart=>exact⟨xI.length,-1,di,rfl,rfl,rfl,rfl⟩
           case round=>
            obtain⟨i',r,il',hgk',rfl,rfl,rfl⟩:=hrel;by_cases hi':0<i'
            .obtain⟨p,rfl⟩:∃p,i'=p+1:=⟨i'-1,by omega⟩
             rw [show (((p+1:Nat):Int)-1)=(p:Int) by omega];have d6:decide ((0:Int)<=p)=true:=dt_ (by omega);have ip0:=jg p;have ip1:(p:Int)<xI.length:=by omega
             have wp:IntKind.i64.wrap ((p:Int)-1)=(p:Int)-1:=oG _ (by omega) (by have:=WM.o;omega);obtain⟨x,hx⟩:∃x,ls[p]?=some x:=⟨_,gg_ (by have:=WM.o;omega)⟩;obtain⟨v,hv1,hv2,hv3⟩:=ML9.o.lr p x hx;have cl9:=bM ML9.o.la hv1
             have VV:Hid (v=n_\/∃g' f,v=s_ g' ns.length ns.length/\Bl wr g' ns.length f):=by
              by_cases hc:p<ls.length/\x.mode=mode
              .obtain⟨g',e1,_,e3⟩:=hv2 hc;exact .inr ⟨g',_,e1,e3⟩
              .exact .inl (hv3 hc)
             clear hv1 hv2 hv3 hx
             go_wp2_with fail
             go_loopg [20,22] ns.length (fun gk rv nv wx=>∃(n':Nat) (r':Int),n'<=ns.length/\gk=ns.length-n'/\rv=I_ r'/\nv=I_ n'/\wx=wr)
             case atStart=>exact⟨0,r,zl_ _,rfl,rfl,rfl,rfl⟩
             case round=>
              obtain⟨n',r',nl',rfl,rfl,rfl,rfl⟩:=hrel;by_cases hn':n'<ns.length
              .have d7:=nV n' ns.length;have wn:=kg n';have in0:=jg n';have in1:(n':Int)<ns.length:=by omega
               rcases VV.o with rfl | ⟨g',f,rfl,hg'⟩
               .go_wp2;go_roundg p
                case measure=>omega
                case rel=>exact⟨p,r',by omega,rfl,rfl,by go_num,rfl⟩
               .have aO:=bM hg' (gH f hn');have ck0:=CK9.o.1;have ck1:=CK9.o.2.1;have ck2:=bM CK9.o.2.2 (gH fk hn');have Ij:(k:Int)<oL.length:=IK1.o;have Mr:=jg k;clear hg';generalize f n'=b1 at *;generalize fk n'=b2 at *
                cases b1 with
                | true=>
                 cases b2 with
                 | true=>
                  go_wp2;go_roundg (ns.length-(n'+1))
                  case measure=>omega
                  case rel=>exact⟨n'+1,p,by omega,rfl,rfl,by go_num,rfl⟩
                 | false=>
                  go_wp2;go_roundg (ns.length-(n'+1))
                  case measure=>omega
                  case rel=>exact⟨n'+1,r',by omega,rfl,rfl,by go_num,rfl⟩
                | false=>
                 go_wp2;go_roundg (ns.length-(n'+1))
                 case measure=>omega
                 case rel=>exact⟨n'+1,r',by omega,rfl,rfl,by go_num,rfl⟩
              .have d7:=mM n' ns.length;go_wp2;go_roundg p
               case measure=>omega
               case rel=>exact⟨p,r',by omega,rfl,rfl,by go_num,rfl⟩
            .have e0:i'=0:=by omega
             subst e0;have d6:decide ((0:Int)<=(((0:Nat):Int)-1))=false:=by decide
             have qm:B_ wr (wr.alloc (c_ #[I_ r] 3)):=mi _;have MA9:=bK (M8.o.below qm);have SZA:Hid (w3.heap.size<=(wr.alloc (c_ #[I_ r] 3)).heap.size):=MA9.o.be.size;have c2:=bP 2 M8.o.b rfl;have c2a:=bP 2 MA9.o.b rfl;have RL3:rs.length<=1000:=by have:=RL2.o;omega
             clear M8 qm CK9 ML9;go_upto_region 21 with (at_builtin;go_must (refine jr rfl (.tmp 205) (.tmp 207) 31 3 rfl (I_ 0) 8 Tryz.underlying31 xN rfl (by decide) w3.heap.size _ rs rfl MA9.o.r wr.heap.size (I_ r) rfl (hn_ _ _) rfl RL3 SZA.o ?_);intro v8 w8 jd eO;have AR:=dR MA9.o.r MA9.o.b (by decide) eO;have k8:=bM (j:=2) AR rfl;have f8:=bL AR 2;have wV:=bK jd;obtain⟨a8,c8,ev8,_,_⟩:=dS jd;rw [la_,List.length_singleton] at ev8;subst ev8;clear jd);have M10:=bK (MS.ad9 MA9.o wV.o eO);have wk:=kg k;clear AR k8 f8 wV eO MA9 SZA c2 c2a;go_wp2;go_roundg (44-(k+1))
             case measure=>omega
             case rel=>exact⟨k+1,_,_,_,oL,S',_,_,by omega,rfl,by go_num,M10.o,NXT.o,GLX.o.1,GLX.o.2,by have:=TL.o;simp;omega,by have:=RL2.o;simp;omega⟩
        .have d4:decide ((vM.length:Int)<=41)=false:=dn_ (by omega);have RES:Hid (vE ls ns mode=S):=by show _=_;rw [<-HG.o,show 44-k=(43-k)+1 by omega];unfold tO;rw [if_neg (by have:=abh.o;omega)]
         have hb3:=M3.o.be;have r3:=bN M3.o.aY HM.o.be (bO M3.o.aY);have z0:=bP 0 r3 rfl;have z1:=bP 1 r3 rfl;have z2:=bP 2 r3 rfl;have f0:=bL r3 0;have f1:=bL r3 1;have f2:=bL r3 2;have c1:=bP 1 HM.o.b rfl;have c2:=bP 2 HM.o.b rfl;have ne1:w.heap.size≠go:=by have:=bO M3.o.aY;have:=HM.o.lo;omega
         have yZ:go≠w.heap.size:=fun e=>ne1 e.symm
         have fin:=MW hb3 M3.o.aY di HM.o;rw [<-RES.o] at fin;have FIN:=bK fin;clear HM HG hb3 r3 M3 OK3 fin RES;go_wp2;exact br_ (by simp [results,Tryz.results65,asAddr,FIN.o.1]) rfl FIN.o.2
       .have d3:=mM k vM.length;have RES:Hid (vE ls ns mode=S):=by show _=_;rw [<-HG.o,show 44-k=(43-k)+1 by omega];unfold tO;rw [if_neg (by have:=abh.o;omega)]
        have hb3:=M3.o.be;have r3:=bN M3.o.aY HM.o.be (bO M3.o.aY);have z0:=bP 0 r3 rfl;have z1:=bP 1 r3 rfl;have z2:=bP 2 r3 rfl;have f0:=bL r3 0;have f1:=bL r3 1;have f2:=bL r3 2;have c1:=bP 1 HM.o.b rfl;have c2:=bP 2 HM.o.b rfl;have ne1:w.heap.size≠go:=by have:=bO M3.o.aY;have:=HM.o.lo;omega
        have yZ:go≠w.heap.size:=fun e=>ne1 e.symm
        have fin:=MW hb3 M3.o.aY di HM.o;rw [<-RES.o] at fin;have FIN:=bK fin;clear HM HG hb3 r3 M3 OK3 fin RES;go_wp2;exact br_ (by simp [results,Tryz.results65,asAddr,FIN.o.1]) rfl FIN.o.2
end Go.Proofs.YtmccnmgaoppogaaGreat
