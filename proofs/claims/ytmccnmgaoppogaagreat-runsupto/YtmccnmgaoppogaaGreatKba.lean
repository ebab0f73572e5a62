import Derived.Test.YtmccnmgaoppogaaGreatKaz
namespace Go.Proofs.YtmccnmgaoppogaaGreat
open Pu
set_option linter.all false
set_option maxRecDepth 100000
set_option maxHeartbeats 8000000
open Go.RowKit
variable {all:List aC} {i:Nat}
namespace Pu
theorem sM.base {s:Y_} {i:Nat} {ls all:List aC} (h:sM s i ls all):Pu.base ls<=i->Pu.base all<=s.size:=by
 induction h with
 | done h1=>intro hb;rw [qC,Dz];have:=h1.le;omega
 | more h1 _ _ _ ih=>intro hb;refine ih ?_;rw [qC,Dz];have:=h1.le;omega
theorem sM.Jb {s:Y_} (h:sM s 0 [] all):Pu.base all<=s.size:=h.base di
end Pu
theorem ZX {B B':Nat} {W:W_} {v:V_} {ps:List Pu.aJ} (h:Dm B W v ps) (hb:B'<=B):Dm B' W v ps:=by obtain⟨qs,h1,h2,h3⟩:=h;exact⟨qs,dH h1 hb,h2,h3⟩
theorem aau (w:W_):dh (w.alloc (c_ #[I_ 0,n_,n_] 78)) w.heap.size 78 [I_ 0,n_,n_]:=hn_ _ _
theorem V5 (s:Y_) (w:W_):C_ 23 #[.string s] w (agb s w):=by
 have TB:=bK (aau w);have B0:Hid (B_ w (w.alloc (c_ #[I_ 0,n_,n_] 78))):=(Br_ w.heap.size w).alloc di _;go_enter Tryz.func23,Tryz.ntmps23
 go_wp2_with fail
 generalize w.alloc (c_ #[I_ 0,n_,n_] 78)=W0 at *;refine (GZ s W0).mono ?_
 rintro e w1 ⟨v,en,no,rfl,hb1,hrd⟩;have XT:=bK (bN TB.o hb1 (bO TB.o));have B1:=bK (iT B0.o hb1);have szz:=B0.o.size;clear TB B0;by_cases he:en=0
 .subst he
  have U5:s.size<=300/\∃all,sM s 0 [] all/\Aj Gx all/\Aj Oz all/\∃al nl cl ap np cp,v=.agg #[I_ (lD (cB all).1),.slice al nl cl,.slice ap np cp]/\no=0/\Lm W0.heap.size w1 (.slice al nl cl) (cB all).1/\Dm W0.heap.size w1 (.slice ap np cp) (cB all).2:=by
   rcases hrd with ⟨_,_,e,_⟩ | ⟨_,k,_,_,e,_⟩ | ⟨hs,all,hL,h⟩
   .cases e
   .cases e
   .rcases h with ⟨i,_,_,e,_⟩ | ⟨_,i,_,_,e,_⟩ | ⟨h1,h2,al,nl,cl,ap,np,cp,hv,_,hno,lm,pl⟩
    .cases e
    .cases e
    .exact⟨hs,all,hL,h1,h2,al,nl,cl,ap,np,cp,hv,hno,lm,pl⟩
  obtain⟨hs,all,hL,hD,hE,al,nl,cl,ap,np,cp,rfl,rfl,lm,pl⟩:=U5;have zl:=hL.zl;have nm:=EI zl.1;rw [nm.1];have MP:=iV all;have yK:(cB all).2.length<=1000:=by rw [MP.len];exact lt_ (hL.Jb) (by omega)
  have ahc:(cB all).1.length<=1000:=by rw [MP.n];omega
  have HD:=bK hD;have HE:=bK hE;have Xk:=bK hL;have POK:=bK MP.ok;have PTS:Hid (∀x∈(cB all).1,mI (cB all).2.length x.pt):=by have:=MP.pts;rw [<-MP.len] at this;exact this
  have hb2:=(Br_ w1.heap.size w1).alloc di (c_ #[I_ (Pu.aV all:Nat),.slice al nl cl,.slice ap np cp] 78);have hb3:=hb2.alloc (by simp) (c_ #[] 87);have nml:=nm.2;have I0:Hid (RI w w.heap.size w1.heap.size all al nl cl ap np cp 0 (s_ (w1.heap.size+1) 0 0) ((w1.alloc (c_ #[I_ (Pu.aV all:Nat),.slice al nl cl,.slice ap np cp] 78)).alloc (c_ #[] 87))):=by have on:=rV (w1.alloc (c_ #[I_ (Pu.aV all:Nat),.slice al nl cl,.slice ap np cp] 78)) 87 1;rw [wa_] at on;have szw:=B1.o.size;exact⟨iT B1.o hb3,bN XT.o hb3 (bO XT.o),dx (hn_ _ _) _,(lm.mono szz).below hb3,(ZX pl szz).below hb3,⟨[],dH on (by omega),rfl,fun j u ss hu=>by simp at hu⟩,fun j hj=>by omega,di⟩
  clear hb1 hrd hb2 hb3 lm pl hL hD hE zl nm XT B1 MP
  go_wp2_with fail
  generalize hW2:(w1.alloc (c_ #[I_ (Pu.aV all:Nat),.slice al nl cl,.slice ap np cp] 78)).alloc (c_ #[] 87)=W2 at *;generalize hgB:w1.heap.size=gB at *
  go_loopg [9,10,11,12] (Pu.aV all) (fun gk fv mv _ _ wx=>∃(m:Nat) (f:V_),m<=Pu.aV all/\gk=Pu.aV all-m/\fv=f/\mv=I_ m/\RI w w.heap.size gB all al nl cl ap np cp m f wx)
  case atStart=>exact⟨0,_,zl_ _,rfl,rfl,rfl,I0.o⟩
  case round=>
   clear I0;obtain⟨m,f,ml,rfl,rfl,rfl,hI⟩:=hrel;have HI:=bK hI;have b0:=bP 0 hI.b rfl;have b1:=bP 1 hI.b rfl;have b2:=bP 2 hI.b rfl;obtain⟨vs,fo,fl,fs⟩:=hI.fd;obtain⟨av,cv,rfl,_,_⟩:=dS fo;have FO:=bK fo;have FS:=bK fs;have vl:vs.length=m:=by rw [fl];simp [kW]
   have vlb:vs.length<=4:=by omega
   have VL:=bK vl;clear vl;clear hI fo fl fs;by_cases hlt:m<Pu.aV all
   .have d1:=nV m (Pu.aV all:Int);have wi:=kg m
    go_wp2_with fail
    refine (Yx w.heap.size _ (m:Int) al ap nl cl np cp (cB all).1 (cB all).2 wr HI.o.lm HI.o.pl POK.o yK ahc PTS.o).mono ?_
    clear b0 b1 b2;rintro e w3 ⟨hb3,(⟨Ej,vs3,rfl,hset⟩ | ⟨ag1,rfl⟩)⟩
    .have I3:=bK (HI.o.below hb3)
     have FO3:=bK (bU FO.o hb3 di);have SET:=bK (hset.mono HI.o.be.size);obtain⟨a3,c3,rfl⟩:=hset.form;have FS3:Hid (∀(j:Nat) (u:V_) (ss:List aN),vs[j]?=some u->(kW all m)[j]?=some ss->qB w.heap.size w3 u ss/\∃a n c,u=.slice a n c):=fun j u ss h1 h2=>⟨(FS.o j u ss h1 h2).1.below hb3,(FS.o j u ss h1 h2).2⟩
     clear hb3 hset HI FO FS;have hb4:=(Br_ w3.heap.size w3).alloc di (c_ #[.slice a3 (pJ (cB all).1 (cB all).2 (m:Int)).length c3] 87);have I4:=bK (I3.o.below hb4);have FO4:=bK (bU FO3.o hb4 di);have age:=bK (SET.o.below hb4);have FS4:Hid (∀(j:Nat) (u:V_) (ss:List aN),vs[j]?=some u->(kW all m)[j]?=some ss->qB w.heap.size (w3.alloc (c_ #[.slice a3 (pJ (cB all).1 (cB all).2 (m:Int)).length c3] 87)) u ss/\∃a n c,u=.slice a n c):=fun j u ss h1 h2=>⟨(FS3.o j u ss h1 h2).1.below hb4,(FS3.o j u ss h1 h2).2⟩
     have BN:Hid (dh (w3.alloc (c_ #[.slice a3 (pJ (cB all).1 (cB all).2 (m:Int)).length c3] 87)) w3.heap.size 87 [.slice a3 (pJ (cB all).1 (cB all).2 (m:Int)).length c3]):=hn_ _ _;have sz4:=I4.o.be.size;clear hb4 I3 FO3 SET FS3;generalize hsl:(pJ (cB all).1 (cB all).2 (m:Int)).length=sln at *
     go_wp2_with (at_builtin;go_must (refine Bp rfl (.tmp 41) (.tmp 43) rfl w.heap.size _ vs rfl FO4.o w3.heap.size (.slice a3 sln c3) rfl BN.o rfl (by omega) sz4 ?_);intro v5 w5 hown5 hgrow5)
     have kt:Kt 87 _ w5:=Kt.row FO4.o hgrow5
     have I5:Hid (RI w w.heap.size gB all al nl cl ap np cp (m+1) v5 w5):=by
      refine⟨I4.o.be.grown hgrow5 sz4 (fun k' h=>(ol_ FO4.o k' h).1),kt.block I4.o.r (by decide),kt.block I4.o.b (by decide),kt.lm I4.o.lm (by decide) (by decide),kt.plm I4.o.pl (by decide) (by decide),⟨_,hown5,by simp [kW,VL.o],fun j u ss h1 h2=>?_⟩,fun j hj=>?_,I4.o.ap⟩
      .unfold kW at h2;rw [List.range_succ,List.map_append] at h2;rcases sw h1 with ⟨hl,hk⟩ | ⟨rfl,rfl⟩
       .rw [al_ (by have:=VL.o;simp;omega)] at h2;exact⟨kt.Wj (FS4.o j u ss hk h2).1 (by decide) (by decide),(FS4.o j u ss hk h2).2⟩
       .rw [ar_ (by have:=VL.o;simp;omega)] at h2;simp [VL.o] at h2;subst h2;exact⟨kt.Wj age.o (by decide) (by decide),_,_,_,rfl⟩
      .by_cases e:j=m
       .subst e;show (pJ (cB all).1 (cB all).2 (j:Int)).length<=42;rw [hsl];exact Ej
       .exact I4.o.ok j (by omega)
     clear kt hown5 hgrow5 I4 FO4 age FS4 BN;go_roundg (Pu.aV all-(m+1))
     case measure=>omega
     case rel=>exact⟨m+1,_,hlt,rfl,rfl,by go_num,I5.o⟩
    .have I3:=bK (HI.o.below hb3);have FF:Hid (Ak s 13 m):=.inr (.inr ⟨hs,all,Xk.o,.inr (.inr ⟨HD.o,HE.o,.inl ⟨m,hlt,ag1,HI.o.ok,rfl,rfl⟩⟩)⟩);clear hb3 HI FO FS;obtain⟨ld,bF⟩:=sG I3.o.be I3.o.r I3.o.ap (I_ 0) n_ n_;have BF:=bK bF;have z0:=bP 0 I3.o.r rfl;have z1:=bP 1 I3.o.r rfl;have z2:=bP 2 I3.o.r rfl;have f0:=bL I3.o.r 0;have f1:=bL I3.o.r 1;have f2:=bL I3.o.r 2;clear bF;go_wp2;exact br_ (by simp [results,Tryz.results23,asAddr,Result.andThen,ld]) rfl ⟨_,_,_,_,_,_,rfl,BF.o,FF.o,fun _=>⟨rfl,rfl⟩,fun e=>(by cases e)⟩
   .have d1:=mM m (Pu.aV all:Int);have em:m=Pu.aV all:=by omega
    obtain⟨ld,bF⟩:=sG HI.o.be HI.o.r HI.o.ap (I_ (Pu.aV all:Nat)) (.slice al nl cl) (.slice ap np cp);have BF:=bK bF;have kt:=Kt.fA HI.o.r (iP wr w.heap.size (I_ (Pu.aV all:Nat)) (.slice al nl cl) (.slice ap np cp))
    have HFD:Hid (WK w.heap.size (jO wr w.heap.size (I_ (Pu.aV all:Nat)) (.slice al nl cl) (.slice ap np cp)) (.slice av vs.length cv) (kW all (Pu.aV all))):=by
     have hfn:WK w.heap.size (jO wr w.heap.size (I_ (Pu.aV all:Nat)) (.slice al nl cl) (.slice ap np cp)) (.slice av vs.length cv) (kW all m):=⟨vs,kt.rows FO.o (by decide),by simp [kW,VL.o],fun j u ss h1 h2=>⟨kt.Wj (FS.o j u ss h1 h2).1 (by decide) (by decide),(FS.o j u ss h1 h2).2⟩⟩;have e2:kW all m=kW all (Pu.aV all):=by rw [em]
     rw [e2] at hfn;exact hfn
    have HLM:=bK (kt.lm HI.o.lm (by decide) (by decide));have HPM:=bK (kt.plm HI.o.pl (by decide) (by decide));have OKM:Hid (∀j,j<Pu.aV all->(fZ all j).length<=42):=by rw [<-em];exact HI.o.ok
    have FF:Hid (Ak s 0 0):=.inr (.inr ⟨hs,all,Xk.o,.inr (.inr ⟨HD.o,HE.o,.inr ⟨OKM.o,rfl,rfl⟩⟩)⟩);have z0:=bP 0 HI.o.r rfl;have z1:=bP 1 HI.o.r rfl;have z2:=bP 2 HI.o.r rfl;have f0:=bL HI.o.r 0;have f1:=bL HI.o.r 1;have f2:=bL HI.o.r 2;clear bF kt FO FS;go_wp2;exact br_ (by simp [results,Tryz.results23,asAddr,Result.andThen,ld]) rfl ⟨_,_,_,_,_,_,rfl,BF.o,FF.o,fun h=>absurd rfl h,fun _=>⟨all,_,_,_,_,_,_,Xk.o,HD.o,HE.o,OKM.o,rfl,rfl,rfl,HLM.o,HPM.o,HFD.o⟩⟩
 .have hz:v=yu/\Ak s en no:=by
   rcases hrd with ⟨h1,h2,h3,h4⟩ | ⟨h0,k,h1,h2,h3,h4⟩ | ⟨hs,all,hL,h⟩
   .exact⟨h2,.inl ⟨h1,h3,h4⟩⟩
   .exact⟨h2,.inr (.inl ⟨h0,k,h1,h3,h4⟩)⟩
   .rcases h with ⟨i,h1,h2,h3,h4⟩ | ⟨h0,i,h1,h2,h3,h4⟩ | ⟨_,_,_,_,_,_,_,_,_,h3,_⟩
    .exact⟨h2,.inr (.inr ⟨hs,all,hL,.inl ⟨i,h1,h3,h4⟩⟩)⟩
    .exact⟨h2,.inr (.inr ⟨hs,all,hL,.inr (.inl ⟨h0,i,h1,h3,h4⟩)⟩)⟩
    .exact absurd h3 he
  obtain⟨rfl,hpc⟩:=hz;have FF:=bK hpc;have e0:(en != 0)=true:=by simpa using he
  have hb2:=(Br_ w1.heap.size w1).alloc di (c_ #[I_ 0,n_,n_] 78);have Gj:=bK (bN XT.o hb2 (bO XT.o));obtain⟨ld,bF⟩:=sG (gR:=w.heap.size) (iT B1.o hb2) Gj.o di (I_ 0) n_ n_;have BF:=bK bF;have z0:=bP 0 Gj.o rfl;have z1:=bP 1 Gj.o rfl;have z2:=bP 2 Gj.o rfl;have f0:=bL Gj.o 0;have f1:=bL Gj.o 1;have f2:=bL Gj.o 2;have HE:=bK he;clear hb1 hrd hpc bF XT B1 hb2 he;go_upto_region 2 with (fail);generalize w1.alloc (c_ #[I_ 0,n_,n_] 78)=W2 at *;go_wp2;exact br_ (by simp [results,Tryz.results23,asAddr,Result.andThen,ld]) rfl ⟨_,_,_,_,_,_,rfl,BF.o,FF.o,fun _=>⟨rfl,rfl⟩,fun e=>absurd e HE.o⟩
def abf (k:Nat) (w:W_) (e:Ending) (w':W_):Prop:=∃a c,e=.returned (.slice a k c)/\B_ w w'
theorem aac (g n:Nat) (mode:Int) (S:List (Nat->Bool)) (w:W_) (hS:0<S.length) (hm:C_ 65 #[p_ g,I_ mode] w (CJ S n w)) :
  C_ 30 #[p_ g,I_ mode] w (abf (S.length-1) w):=by
 have fw:=bK hm;clear hm;go_enter Tryz.func30,Tryz.ntmps30
 go_wp2_with fail
 refine fw.o.mono ?_
 clear fw;rintro e w2 ⟨vS,vT,vR,vM,rfl,⟨aT,nT,cT,rfl⟩,⟨aR,nR,cR,rfl⟩,hb,hs⟩;obtain⟨gS,cS,evS,hc,_⟩:=dJ hs.own (by rw [hs.len];exact hS);subst evS;have B2:Hid (∀o,B_ w (w2.alloc o)):=fun o=>hb.alloc hb.size _
 have SL:Hid (vM.length=S.length):=hs.len;have aS:(1:Int)<=vM.length:=by have:=hs.len;omega
 have i1:(vM.length:Int)<=cS:=by omega
 clear hs hb;go_wp2
 all_goals
  go_ret;exact⟨_,_,by rw [SL.o];rfl,B2.o _⟩
namespace Pu
def zb (all:List aC) (en no:Int):Prop:=
 (∃i:Nat,mU Gx all i/\en=11/\no=i)\/(Aj Gx all/\∃i:Nat,mU Oz all i/\en=12/\no=i)\/
   (Aj Gx all/\Aj Oz all/\((∃m:Nat,m<aV all/\42<(fZ all m).length/\(∀j,j<m->(fZ all j).length<=42)/\en=13/\no=m)\/((∀j,j<aV all->(fZ all j).length<=42)/\en=0/\no=0)))
theorem mU.same {f:aC->Bool} {j:Nat} (h:mU f all i) (h':mU f all j):i=j:=by
 obtain⟨⟨x,hx,fx⟩,h1⟩:=h;obtain⟨⟨y,hy,fy⟩,h2⟩:=h';rcases Nat.lt_trichotomy i j with k | k | k
 .have:=h2 i x k hx;rw [fx] at this;cases this
 .exact k
 .have:=h1 j y k hy;rw [fy] at this;cases this
theorem mU.no {f:aC->Bool} (h:mU f all i) (h':Aj f all):False:=by obtain⟨⟨x,hx,fx⟩,_⟩:=h;have:=h' x (mg_ hx);rw [fx] at this;cases this
section
variable {all:List aC} {en no:Int}
theorem zb.down (h:zb all en no) (hi:mU Gx all i):en=11/\no=i:=by
 rcases h with ⟨j,hj,h1,h2⟩ | ⟨hn,_⟩ | ⟨hn,_⟩
 .exact⟨h1,by rw [hi.same hj];exact h2⟩
 .exact (hi.no hn).elim
 .exact (hi.no hn).elim
theorem zb.empty (h:zb all en no) (hd:Aj Gx all) (hi:mU Oz all i):en=12/\no=i:=by
 rcases h with ⟨j,hj,_,_⟩ | ⟨_,j,hj,h1,h2⟩ | ⟨_,hn,_⟩
 .exact (hj.no hd).elim
 .exact⟨h1,by rw [hi.same hj];exact h2⟩
 .exact (hi.no hn).elim
theorem zb.many (h:zb all en no) (hd:Aj Gx all) (he:Aj Oz all) {m:Nat} (hm:m<aV all) (wT:42<(fZ all m).length) (hb:∀j,j<m->(fZ all j).length<=42):en=13/\no=m:=by
 rcases h with ⟨j,hj,_,_⟩ | ⟨_,j,hj,h1,h2⟩ | ⟨_,_,⟨j,hj,k1,k2,h1,h2⟩ | ⟨hj,_,_⟩⟩
 .exact (hj.no hd).elim
 .exact (hj.no he).elim
 .refine⟨h1,?_⟩;rcases Nat.lt_trichotomy m j with k | k | k
  .have:=k2 m k;omega
  .rw [k];exact h2
  .have:=hb j k;omega
 .have:=hj m hm;omega
theorem zb.ajQ (h:zb all en no) (hd:Aj Gx all) (he:Aj Oz all) (hb:∀j,j<aV all->(fZ all j).length<=42):en=0/\no=0:=by
 rcases h with ⟨j,hj,_,_⟩ | ⟨_,j,hj,h1,h2⟩ | ⟨_,_,⟨j,hj,k1,k2,h1,h2⟩ | ⟨hj,h1,h2⟩⟩
 .exact (hj.no hd).elim
 .exact (hj.no he).elim
 .have:=hb j hj;omega
 .exact⟨h1,h2⟩
end
theorem sM.nodes {s:Y_} {ls:List aC} (h:sM s i ls all):(fG ls).ns.length<=2*i->(fG all).ns.length<=2*s.size+2:=by
 induction h with
 | done h1=>?_
 | more h1 h2 h3 h4 ih=>?_
 focus intro hl
 rotate_left
 focus
  intro hl;refine ih ?_
 all_goals
  have:=h1.size;rw [uk];simp only [I8,la_,bR];omega
end Pu
structure Dl (w:W_) (s:Y_) (all:List aC) (g:Nat) (vn:V_) (al:Option Addr) (cl:Nat) (W:W_):Prop where
 dr:Dr w.heap.size g s (s.size+1) (fG all).ns vn (.slice al (fG all).ls.length cl) (fG all).modes (fG all).down W
 ln:W.ownsRow w.heap.size 101 5 (.slice al (fG all).ls.length cl) (fG all).ls.length (Gl (fG all).ls)
 be:B_ w W
theorem Dl.below {w W W':W_} {s:Y_} {all:List aC} {g:Nat} {vn:V_} {al:Option Addr} {cl:Nat} (h:Dl w s all g vn al cl W) (hb:B_ W W'):Dl w s all g vn al cl W':=
 ⟨h.dr.below hb,bU h.ln hb di,h.be.trans (hb.mono h.be.size)⟩
def Bv (s:Y_):Prop:=∀(B g aS:Nat) (ls:List aC) (ns:List aF) (xI:List IU) (vn:V_) (al:Option Addr) (cl:Nat) (modes down:Int),ns.length<=100000->0<ns.length->ls.length<=1000->∀(mode:Int) (w:W_),Dr B g s aS ns vn (.slice al xI.length cl) modes down w->w.ownsRow B 101 5 (.slice al xI.length cl) xI.length (Gl xI)->Pu.AD ls ⟨ns,xI,modes,down⟩->C_ 65 #[p_ g,I_ mode] w (CJ (vE ls ns mode) ns.length w)
def afZ (s:Y_) (en no:Int) (w:W_) (e:Ending) (w':W_):Prop:=
 ∃p,e=.returned (.tuple #[p,I_ en,I_ no])/\B_ w w'/\(en=0->∃all g vn al cl,sM s 0 [] all/\p=p_ g/\Dl w s all g vn al cl w')
theorem UA (s:Y_) (en no:Int) (hP:Ak s en no) (w:W_)
  (vK:Bv s) :
  C_ 12 #[.string s] w (afZ s en no w):=by
 have afL:=bK vK;clear vK;go_enter Tryz.func12,Tryz.ntmps12;rcases hP with ⟨hs,rfl,rfl⟩ | ⟨hs,k,hF,rfl,rfl⟩ | ⟨hs,all,hA,hC⟩
 .have d1:=nV (300:Int) (s.size:Int);go_wp2;go_ret3;exact⟨_,rfl,Br_ _ _,fun e=>by cases e⟩
 .have d1:=mM (300:Int) (s.size:Int);have H:=bK hF.at;clear hF
  go_wp2_with fail
  refine (FQ s w (by omega)).mono ?_
  rintro e w2 ⟨rfl,⟨k',h1,rfl⟩ | ⟨q,h1,h2,rfl⟩⟩
  .have ek:=nW.same H.o h1;subst ek;clear h1 H;go_wp2;go_ret3;exact⟨_,rfl,Br_ _ _,fun e=>by cases e⟩
  .exact (H.o.not h1 h2).elim
 .have d1:=mM (300:Int) (s.size:Int);have HA:=bK hA;have HC:=bK hC;have AD0:=zi all hA.zl.1;have Xp:=hA.zl;clear hA hC
  go_wp2_with fail
  refine (FQ s w (by omega)).mono ?_
  rintro e w2 ⟨rfl,⟨k',h1,rfl⟩ | ⟨q,h1,h2,rfl⟩⟩
  .obtain⟨q,g1,g2⟩:=HA.o.abo;exact (h1.not g1 g2).elim
  .clear h1 h2
   go_wp2_with fail
   refine (UF s (by omega) all HA.o w2).mono ?_
   rintro e w3 ⟨g,vn,al,cl,rfl,hb,hd,hl⟩;have DL3:Hid (Dl w2 s all g vn al cl w3):=⟨hd,hl,hb⟩;have c3:=bP 3 hd.rb rfl;clear hb hd hl;have nsl:(fG all).ns.length<=100000:=by have:=HA.o.nodes (zl_ _);omega
   have nsp:0<(fG all).ns.length:=by rw [AD0.net.len];obtain⟨x,hx⟩:=qG all 0;have h1:=iR hx;have h2:=tT all (0+1);have:=x.re.size_pos;omega
   have MD:(fG all).modes=(Pu.aV all:Int):=by
    rcases AD0.modes with ⟨h1,_⟩ | h1
    .rw [h1] at Xp;simp at Xp
    .rw [h1];exact (EI Xp.1).1
   have nm4:=(EI Xp.1).2.2;have AG:=bK AD0;have CK:Hid (zb all en no):=HC.o;have ll:(fG all).ls.length=all.length:=sP all;rcases AD0.down with ⟨h1,hND⟩ | ⟨i,h1,hFD⟩
   .rw [h1] at c3;clear AD0 h1
    go_wp2_with fail
    go_loopg [8,9] all.length (fun gk iv _ wx=>∃(i:Nat),i<=all.length/\gk=all.length-i/\iv=I_ i/\Dl w2 s all g vn al cl wx/\∀(j:Nat) (y:aC),j<i->all[j]?=some y->y.re.iM=false)
    case atStart=>exact⟨0,zl_ _,rfl,rfl,DL3.o,fun j y hj=>absurd hj (Nat.not_lt_zero _)⟩
    case round=>
     clear DL3 c3;obtain⟨i,il,rfl,rfl,hD,hE⟩:=hrel;have c2:=bP 2 hD.dr.rb rfl;rw [ll] at c2;by_cases hi:i<all.length
     .have d3:=nV i all.length;have wi:=kg i;have ii0:=jg i;have ii1:(i:Int)<all.length:=by omega
      obtain⟨x,hx⟩:=qG all i hi;have Mi:=AG.o.get i x hx;obtain⟨gv,cv,ev,_,_⟩:=dJ hD.ln (by omega);cases ev;have q4:wr.cell? (a_ gv (i*5+4))=some (I_ ((dK (all.take i)+x.re.size-1:Nat):Int)):=bT hD.ln (pG Mi (j:=4) (by omega));have fw:=bK (UH _ _ _ _ _ _ _ _ _ nsl x.re (dK (all.take i)) wr hD.dr (AG.o.net.at' i x hx));have HD:=bK hD;have HE:=bK hE;have HX:=bK hx;clear hD hE Mi hx
      go_wp2_with fail
      refine fw.o.mono ?_
      clear fw c2 q4;rintro e w4 ⟨rfl,hb4⟩;have D4:=bK (HD.o.below hb4);clear hb4 HD
      cases ee:x.re.iM with
      | true=>obtain⟨rfl,rfl⟩:=CK.o.empty hND (i:=i) ⟨⟨x,HX.o,ee⟩,fun j y hj hy=>HE.o j y hj hy⟩;clear ee;go_wp2;go_ret3;exact⟨_,rfl,D4.o.be,fun e=>by cases e⟩
      | false=>
       have HE2:Hid (∀(j:Nat) (y:aC),j<i+1->all[j]?=some y->y.re.iM=false):=fun j y hj hy=>by
        by_cases e:j=i
        .subst e;rw [HX.o] at hy;cases hy;exact ee
        .exact HE.o j y (by omega) hy
       clear ee HE;go_wp2;go_roundg (all.length-(i+1))
       case measure=>omega
       case rel=>exact⟨i+1,by omega,rfl,by go_num,D4.o,HE2.o⟩
     .have d3:=mM i all.length;have hNE:Hid (Aj Oz all):=fun y hy=>by obtain⟨j,hj⟩:=gf_ hy;exact hE j y (by have:=Pu.mY hj;omega) hj
      have HD:=bK hD;clear hD hE
      go_wp2_with fail
      clear c2
      go_loopg [10,11] (Pu.aV all) (fun gk mv _ wx=>∃(m:Nat),m<=Pu.aV all/\gk=Pu.aV all-m/\mv=I_ m/\Dl w2 s all g vn al cl wx/\∀j,j<m->(fZ all j).length<=42)
      case atStart=>exact⟨0,zl_ _,rfl,rfl,HD.o,fun j hj=>absurd hj (Nat.not_lt_zero _)⟩
      case round=>
       clear HD;obtain⟨m,ml,rfl,rfl,hD,hM⟩:=hrel;have c0:=bP 0 hD.dr.rb rfl;rw [MD] at c0;by_cases hm:m<Pu.aV all
       .have d4:=nV m (Pu.aV all:Int);have wm:=kg m;have FL:=Yz (mode:=(m:Int)) (iV all) AG.o.net;have FL2:(fZ all m).length=(vE all (fG all).ns (m:Int)).length+1:=FL;have SP:0<(vE all (fG all).ns (m:Int)).length:=by have:=(Ig (mode:=(m:Int)) (iV all) AG.o.net);obtain⟨T,hT⟩:=this.hd;rw [this.eq,hT];simp
        have fw:=bK (aac g _ (m:Int) _ wr SP (afL.o _ g _ all _ (fG all).ls _ al cl _ _ nsl nsp (by omega) (m:Int) wr hD.dr hD.ln AG.o));have HD:=bK hD;have HM:=bK hM;have FL3:=bK FL2;clear hD hM FL FL2
        go_wp2_with fail
        refine fw.o.mono ?_
        clear fw c0;rintro e w4 ⟨a4,c4,rfl,hb4⟩;have D4:=bK (HD.o.below hb4);clear hb4 HD;generalize hk:(vE all (fG all).ns (m:Int)).length-1=k at *;by_cases Px:40<k
        .have d5:=nV (40:Int) (k:Int);obtain⟨rfl,rfl⟩:=CK.o.many hND hNE.o hm (by rw [FL3.o];omega) HM.o;go_wp2;go_ret3;exact⟨_,rfl,D4.o.be,fun e=>by cases e⟩
        .have d5:=mM (40:Int) (k:Int)
         have HM2:Hid (∀j,j<m+1->(fZ all j).length<=42):=fun j hj=>by
          by_cases e:j=m
          .subst e;rw [FL3.o];omega
          .exact HM.o j (by omega)
         go_wp2;go_roundg (Pu.aV all-(m+1))
         case measure=>omega
         case rel=>exact⟨m+1,by omega,rfl,by go_num,D4.o,HM2.o⟩
       .have d4:=mM m (Pu.aV all:Int);obtain⟨rfl,rfl⟩:=CK.o.ajQ hND hNE.o (fun j hj=>hM j (by omega));have HD:=bK hD;clear hD hM;go_wp2;go_ret3;exact⟨_,rfl,HD.o.be,fun _=>⟨all,g,vn,al,cl,HA.o,rfl,HD.o⟩⟩
   .rw [h1] at c3;have d2:decide ((0:Int)<=i)=true:=dt_ (by omega);obtain⟨rfl,rfl⟩:=CK.o.down hFD;clear AD0 h1
    go_wp2_with fail
    go_quiet (fail);have dn:=bK (bd_ DL3.o.be nq);go_wp2;go_ret3;exact⟨_,rfl,dn.o,fun e=>by cases e⟩
theorem Tt (n:Int) (w:W_):C_ 13 #[I_ n] w (mW (I_ n) w):=by
 go_enter Tryz.func13,Tryz.ntmps13;go_wp2;go_ret
 exact⟨rfl,Br_ _ _⟩
end Go.Proofs.YtmccnmgaoppogaaGreat
