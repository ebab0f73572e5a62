import Derived.Test.YtmccnmgaoppogabGreatuKbi
namespace Go.Proofs.YtmccnmgaoppogabGreat
open Pu
set_option linter.all false
open Go.Proofs.Tryz Tryz
set_option maxRecDepth 100000
set_option maxHeartbeats 8000000
open Go.RowKit
variable {s:Y_} {i:Nat} {all:List aC}
namespace Pu
def rO(s:Y_):List Nat:=(List.range s.size).map (fun i=>(bt s i).toNat)
theorem MR(s:Y_):(rO s).length=s.size:=by simp[rO]
theorem afl(h:i<s.size):(rO s).getD i 0=(bt s i).toNat:=by unfold rO;rw[gd_,gm_,List.getElem?_range h];rfl
theorem EM(s:Y_):∀c∈rO s,c<256:=by intro c a;unfold rO at a;obtain⟨i,_,rfl⟩:=List.mem_map.1 a;have:=iM s i;omega
def Qy(y:aF)(s:Y_)(p:Nat->Bool)(i:Nat):Nat->Bool:=fun q=>decide (1<=q) && (decide (q<=i) && (p (q-1) && y.inn (bt s (q-1)).toNat))
theorem afd{y:aF}{p:Nat->Bool}{q:Nat}(c:q<s.size+2):uW (Qy y s p s.size) (s.size+1) ((List.range 256).any y.inn && (p s.size || p (s.size+1))) q=Bh y (rO s) p q:=by
 unfold uW Bh;rw[MR];by_cases a:q=s.size+1
 .rw [if_pos a,if_pos a]
 .rw [if_neg a,if_neg a];unfold Qy;by_cases b:q=0
  .rw [if_pos b,b];rfl
  .rw [if_neg b,dt_ (o_:1<=q),dt_ (o_:q<=s.size),Bool.true_and,Bool.true_and,afl o_]
end Pu
theorem aaY{n:Nat}(h:n<s.size):wrap64 ((s[n]'h).toNat:Int)=bt s n:=by
 have e:bt s n=((s[n]'h).toNat:Int):=by have a:n<s.data.size:=h;unfold bt;rw[gd_,gg_ (by simpa using a)];rfl
 rw[<-e];have:=iM s n;unfold wrap64;omega
theorem Zc(y:aF)(s:Y_)(G L:Nat)(p:Nat->Bool)(w:W_)(B:Bl w G L p)(H:L=s.size+2)(hs:s.size<=1000) :
  Calls prog 160 #[.agg (dS y).toArray,.string s,s_ G L L] w (UH L (Bh y (rO s) p) w):=by
 have b:=qX L o_;have I:s.size+1<L:=o_;have z:=(Br_ w.heap.size w).alloc dF (c_ (dS y).toArray 181);have c:dh (w.alloc (c_ (dS y).toArray 181)) w.heap.size 181 (dS y):=hn_ _ _;have E:Hid (B_ w ((w.alloc (c_ (dS y).toArray 181)).alloc (c_ (rY L (fun _=>false)).toArray 4))):=z.alloc i_ _;have x:Hid (dh ((w.alloc (c_ (dS y).toArray 181)).alloc (c_ (rY L (fun _=>false)).toArray 4)) w.heap.size 181 (dS y)):=cO c _;have F:Hid (Bl ((w.alloc (c_ (dS y).toArray 181)).alloc (c_ (rY L (fun _=>false)).toArray 4)) (w.heap.size+1) L (fun _=>false)):=by have:=hn_ (w.alloc (c_ (dS y).toArray 181)) (c_ (rY L (fun _=>false)).toArray 4);simp only[wa_]at this;exact this
 have u:=bL B;have J:=bL H;have D:=bP B;clear B H z c;go_in;go_wp2_with fail;clear b;generalize (w.alloc (c_ (dS y).toArray 181)).alloc (c_ (rY L (fun _=>false)).toArray 4)=K at *;have k:Hid (w.heap.size<=w.heap.size+1):=Nat.le_succ _;generalize w.heap.size+1=go at *;go_loopg [8,9] 256 (fun gk d e b=>∃(c:Nat),c<=256/\gk=256-c/\d=.bool ((List.range c).any y.inn)/\e=I_ c/\b=K);exact⟨0,o_,rfl,rfl,rfl,rfl⟩;obtain⟨c,Z,rfl,rfl,rfl,rfl⟩:=hrel;by_cases W:c<256
 .have S:decide ((c:Int)<256)=true:=dt_ o_;have wc:=kZ c;have e:=jJ c;have f:(c:Int)<256:=o_;have q:wr.cell? (a_ w.heap.size (3+c))=some (.bool (y.inn c)):=bN x.o (by show (_::_::_::dD y.inn)[3+c]?=_;rw[(o_:3+c=c+1+1+1),cs_,cs_,cs_];exact iq _ W);have d:Hid ((List.range (c+1)).any y.inn=((List.range c).any y.inn || y.inn c)):=by show _=_;rw[List.range_succ,List.any_append];simp
  generalize (List.range c).any y.inn=b at *;generalize y.inn c=g at *;cases b with
  | true=>?_
  | false=>?_
  all_goals
   go_wp2;go_roundg (256-(c+1));exact⟨c+1,o_,rfl,by rw[d.o];rfl,by go_num,rfl⟩;omega
 .have S:decide ((c:Int)<256)=false:=dn_ o_;have U:c=256:=o_;subst U;go_wp2_with fail;go_loopg [10] s.size (fun gk d b=>∃(i:Nat),i<=s.size/\gk=s.size-i/\d=I_ i/\B_ w b/\dh b w.heap.size 181 (dS y)/\Bl b go L (Qy y s p i));exact⟨0,zl_ _,rfl,rfl,E.o,x.o,F.o.congr (fun q _=>by unfold Qy;by_cases h:1<=q <;> simp[h];omega)⟩;clear E x F;obtain⟨i,il,rfl,rfl,g,t,f⟩:=hrel;have n:=bL g;have r:=bL t;have l:=bL f;by_cases X:i<s.size
  .have T:=oL i s.size;have wi:=kZ i;have aS:=jJ i;have i1:(i:Int)<s.size:=o_;have i2:(i:Int)<L:=o_;have j0:(0:Int)<=i+1:=o_;have j1:(i:Int)+1<(L:Int):=o_;have Q:=bN (bO u.o g D) (iy p (o_:i<L));have O:=bN f (iy _ (o_:i+1<L));have V:=bM f (i+1);have A:=aaY X;have N:=iM s i;obtain⟨b,d⟩:∃b:Nat,bt s i=(b:Int):=⟨(bt s i).toNat,o_⟩;have Y:=jJ b;have z:(b:Int)<256:=o_;have qi:wr.cell? (a_ w.heap.size (3+b))=some (.bool (y.inn b)):=bN t (by show (_::_::_::dD y.inn)[3+b]?=_;rw[(o_:3+b=b+1+1+1),cs_,cs_,cs_];exact iq _ o_);have a:Hid (∀v,v=(p i && y.inn b)->Bl (wr.setCell (a_ go (i+1)) (.bool v)) go L (Qy y s p (i+1))):=fun v C=>(l.o.set (i+1) v).congr (fun q _=>by
    unfold uW Qy;by_cases e:q=i+1
    .subst e;rw[if_pos rfl,C,dt_ (o_:1<=i+1),dt_ dF,Nat.add_sub_cancel,d];simp
    .rw [if_neg e,show decide (q<=i+1)=decide (q<=i) by rw[decide_eq_decide];omega])
   have j:Hid (∀v,B_ w (wr.setCell (a_ go (i+1)) (.bool v))):=fun v=>n.o.setCell k.o _;have q:Hid (∀v,dh (wr.setCell (a_ go (i+1)) (.bool v)) w.heap.size 181 (dS y)):=fun v=>bR r.o (gs_ wr go (i+1) (.bool v)) (fun e=>dI r.o l.o d_ (oi_ e));rw[d]at A;clear g t f d N l r n;generalize y.inn b=e at *;generalize p i=v at *;generalize Qy y s p i (i+1)=d at *;cases v with
   | true=>?_
   | false=>?_
   have R:=bL (a.o e i_);rotate_left;focus have R:=bL (a.o false rfl)
   all_goals
    clear a;go_wp2;go_roundg (s.size-(i+1));exact⟨i+1,o_,rfl,by go_num,j.o _,q.o _,R.o⟩;omega
  .have T:=nI i s.size;have b:i=s.size:=o_;subst b;have ws:=yL ((s.size:Int)+1);have A:(0:Int)<=s.size:=o_;have N:(s.size:Int)<L:=o_;have Y:(0:Int)<=s.size+1:=o_;have t1:(s.size:Int)+1<(L:Int):=o_;have Q:=bN (bO u.o g D) (iy p (o_:s.size<L));have z:=bN (bO u.o g D) (iy p I);have O:=bN f (iy _ I);have V:=bM f (s.size+1);have a:Hid (∀v,v=((List.range 256).any y.inn && (p s.size || p (s.size+1)))->Bl (wr.setCell (a_ go (s.size+1)) (.bool v)) go L (Bh y (rO s) p)):=fun v C=>(l.o.set (s.size+1) v).congr (fun q d=>by
    rw[C];exact afd (by rw[<-J.o];exact d))
   have j:Hid (∀v,B_ w (wr.setCell (a_ go (s.size+1)) (.bool v))):=fun v=>n.o.setCell k.o _;clear g t f l r n;generalize Qy y s p s.size (s.size+1)=d at *;generalize (List.range 256).any y.inn=q at *;generalize p s.size=pa at *;generalize p (s.size+1)=e at *;cases q with
   | false=>have R:=bL (a.o false rfl);clear a;go_wp2;go_ret;exact⟨_,rfl,j.o _,k.o,R.o⟩
   | true=>
    cases pa with
    | true=>have R:=bL (a.o true rfl);clear a;go_wp2;go_ret;exact⟨_,rfl,j.o _,k.o,R.o⟩
    | false=>have R:=bL (a.o e i_);clear a;go_wp2;go_ret;exact⟨_,rfl,j.o _,k.o,R.o⟩
def adI(k:Nat)(w:W_)(e:Ending)(w':W_):Prop:=∃a c,e=.returned (.slice a k c)/\B_ w w'
theorem acx(g n:Nat)(mode:Int)(S:List (Nat->Bool))(w:W_)(p:0<S.length)(f:C_ 79 #[p_ g,I_ mode] w (Er S n w)) :
  Calls prog 55 #[p_ g,I_ mode] w (adI (S.length-1) w):=by
 have a:=bL f;clear f;go_in;go_wp2_with fail;refine a.o.mono ?_;clear a;rintro e q ⟨C,D,B,d,rfl,⟨t,A,v,rfl⟩,⟨r,nR,u,rfl⟩,c,a⟩;obtain⟨x,l,b,y,_⟩:=dL a.own (by rw[a.len];exact p);subst b;have j:Hid (∀o,B_ w (q.alloc o)):=fun o=>c.alloc c.size _;have k:Hid (d.length=S.length):=a.len;have aS:(1:Int)<=d.length:=by have:=a.len;omega
 have z:(d.length:Int)<=l:=o_;clear a c;go_wp2;all_goals
  go_ret;exact⟨_,_,by rw[k.o];rfl,j.o _⟩
namespace Pu
def Ag(all:List aC)(en no:Int):Prop:=
 (∃i:Nat,nN Fy all i/\en=11/\no=i)\/(zq Fy all/\∃i:Nat,nN MW all i/\en=12/\no=i)\/
   (zq Fy all/\zq MW all/\((∃m:Nat,m<aV all/\42<(gJ all m).length/\(∀j,j<m->(gJ all j).length<=42)/\en=13/\no=m)\/((∀j,j<aV all->(gJ all j).length<=42)/\en=0/\no=0)))
theorem nN.same{f:aC->Bool}{j:Nat}(h:nN f all i)(c:nN f all j):i=j:=by
 obtain⟨⟨x,g,a⟩,d⟩:=h;obtain⟨⟨y,l,b⟩,e⟩:=c;rcases Nat.lt_trichotomy i j with k | k | k
 .have:=e i x k g;rw[a]at this;cases this
 .exact k
 .have:=d j y k l;rw[b]at this;cases this
theorem nN.no{f:aC->Bool}(h:nN f all i)(b:zq f all):False:=by obtain⟨⟨x,c,a⟩,_⟩:=h;have:=b x (mg_ c);rw[a]at this;cases this
section
variable {all:List aC} {en no:Int}
theorem Ag.down(h:Ag all en no)(a:nN Fy all i):en=11/\no=i:=by
 rcases h with ⟨j,e,c,d⟩ | ⟨b,_⟩ | ⟨b,_⟩
 .exact⟨c,by rw[a.same e];exact d⟩
 .exact (a.no b).elim
 .exact (a.no b).elim
theorem Ag.empty(h:Ag all en no)(e:zq Fy all)(b:nN MW all i):en=12/\no=i:=by
 rcases h with ⟨j,a,_,_⟩ | ⟨_,j,a,c,d⟩ | ⟨_,f,_⟩
 .exact (a.no e).elim
 .exact⟨c,by rw[b.same a];exact d⟩
 .exact (b.no f).elim
theorem Ag.many(h:Ag all en no)(e:zq Fy all)(f:zq MW all){m:Nat}(g:m<aV all)(p:42<(gJ all m).length)(d:∀j,j<m->(gJ all j).length<=42):en=13/\no=m:=by
 rcases h with ⟨j,a,_,_⟩ | ⟨_,j,a,b,c⟩ | ⟨_,_,⟨j,a,n,l,b,c⟩ | ⟨a,_,_⟩⟩
 .exact (a.no e).elim
 .exact (a.no f).elim
 .refine⟨b,?_⟩;rcases Nat.lt_trichotomy m j with k | k | k
  .have:=l m k;omega
  .rw [k];exact c
  .have:=d j k;omega
 .have:=a m g;omega
theorem Ag.amY(h:Ag all en no)(e:zq Fy all)(f:zq MW all)(d:∀j,j<aV all->(gJ all j).length<=42):en=0/\no=0:=by
 rcases h with ⟨j,a,_,_⟩ | ⟨_,j,a,b,c⟩ | ⟨_,_,⟨j,a,g,k,b,c⟩ | ⟨a,b,c⟩⟩
 .exact (a.no e).elim
 .exact (a.no f).elim
 .have:=d j a;omega
 .exact⟨b,c⟩
end
theorem uk.nodes{ls:List aC}(h:uk s i ls all):(fQ ls).ns.length<=2*i->(fQ all).ns.length<=2*s.size+2:=by
 induction h with
 | done a=>?_
 | more a d e f c=>?_
 intro b;rotate_left;focus
  intro b;refine c ?_
 all_goals
  have:=a.size;rw[vC];simp only[KC,la_,bT];omega
end Pu
structure Dl(w:W_)(s:Y_)(all:List aC)(g:Nat)(vn:V_)(al:Option Addr)(cl:Nat)(W:W_):Prop where
 dr:Dr w.heap.size g s (s.size+1) (fQ all).ns vn (.slice al (fQ all).ls.length cl) (fQ all).modes (fQ all).down W
 ln:W.ownsRow w.heap.size 144 5 (.slice al (fQ all).ls.length cl) (fQ all).ls.length (Ih (fQ all).ls)
 be:B_ w W
theorem Dl.below{w W b:W_}{s:Y_}{all:List aC}{g:Nat}{e:V_}{c:Option Addr}{d:Nat}(h:Dl w s all g e c d W)(a:B_ W b):Dl w s all g e c d b:=
 ⟨h.dr.below a,bW h.ln a dF,h.be.trans (a.mono h.be.size)⟩
def zo(s:Y_):Prop:=∀(B g aS:Nat) (d:List aC) (b:List aF) (c:List Kn) (h:V_) (e:Option Addr) (f:Nat) (a down:Int),b.length<=100000->0<b.length->d.length<=1000->∀(mode:Int) (w:W_),Dr B g s aS b h (.slice e c.length f) a down w->w.ownsRow B 144 5 (.slice e c.length f) c.length (Ih c)->Pu.AD d ⟨b,c,a,down⟩->C_ 79 #[p_ g,I_ mode] w (Er (xg d b mode) b.length w)
def aiC(s:Y_)(en no:Int)(w:W_)(e:Ending)(w':W_):Prop:=
 ∃p,e=.returned (.tuple #[p,I_ en,I_ no])/\B_ w w'/\(en=0->∃all g c a b,uk s 0 [] all/\p=p_ g/\Dl w s all g c a b w')
theorem Jr(s:Y_)(en no:Int)(hP:uL s en no)(w:W_)
  (sS:zo s) :
  Calls prog 24 #[.string s] w (aiC s en no w):=by
 have N:=bL sS;clear sS;go_in;rcases hP with ⟨Z,rfl,rfl⟩ | ⟨Z,k,hF,rfl,rfl⟩ | ⟨Z,all,J,Y⟩
 .have X:=oL (300:Int) (s.size:Int);go_wp2;go_ret3;exact⟨_,rfl,Br_ _ _,fun e=>by cases e⟩
 .have X:=nI (300:Int) (s.size:Int);have H:=bL hF.at;clear hF;go_wp2_with fail;refine (Ht s w o_).mono ?_;rintro e D ⟨rfl,⟨k',a,rfl⟩ | ⟨q,a,I,rfl⟩⟩
  .have b:=oV.same H.o a;subst b;clear a H;go_wp2;go_ret3;exact⟨_,rfl,Br_ _ _,fun e=>by cases e⟩
  .exact (H.o.not a I).elim
 .have X:=nI (300:Int) (s.size:Int);have F:=bL J;have HC:=bL Y;have c:=Am all J.Ao.1;have G:=J.Ao;clear J Y;go_wp2_with fail;refine (Ht s w o_).mono ?_;rintro e D ⟨rfl,⟨k',a,rfl⟩ | ⟨q,a,I,rfl⟩⟩
  .obtain⟨q,b,d⟩:=F.o.UU;exact (a.not b d).elim
  .clear a I;go_wp2_with fail;refine (WJ s o_ all F.o D).mono ?_;rintro e w3 ⟨g,L,z,A,rfl,d,b,f⟩;have n:Hid (Dl D s all g L z A w3):=⟨b,f,d⟩;have Q:=bQ 3 b.rb rfl;clear d b f;have C:(fQ all).ns.length<=100000:=by have:=F.o.nodes (zl_ _);omega
   have S:0<(fQ all).ns.length:=by rw[c.net.len];obtain⟨x,f⟩:=rG all 0;have a:=jo f;have I:=uS all (0+1);have:=x.re.size_pos;omega
   have MD:(fQ all).modes=(Pu.aV all:Int):=by
    rcases c.modes with ⟨a,_⟩ | a
    .rw [a]at G;simp at G
    .rw [a];exact (Gv G.1).1
   have nm4:=(Gv G.1).2.2;have t:=bL c;have E:Hid (Ag all en no):=HC.o;have ll:(fQ all).ls.length=all.length:=uq all;rcases c.down with ⟨a,p⟩ | ⟨i,a,R⟩
   .rw [a]at Q;clear c a;go_wp2_with fail;go_loopg [8,9] all.length (fun gk b _ f=>∃(i:Nat),i<=all.length/\gk=all.length-i/\b=I_ i/\Dl D s all g L z A f/\∀(j:Nat) (y:aC),j<i->all[j]?=some y->y.re.iP=false);exact⟨0,zl_ _,rfl,rfl,n.o,fun j y l=>absurd l (Nat.not_lt_zero _)⟩;clear n Q;obtain⟨i,il,rfl,rfl,b,H⟩:=hrel;have O:=bQ 2 b.dr.rb rfl;rw[ll]at O;by_cases hi:i<all.length
    .have d3:=oL i all.length;have wi:=kZ i;have U:=jJ i;have V:(i:Int)<all.length:=o_;obtain⟨x,f⟩:=rG all i hi;have l:=t.o.get i x f;obtain⟨T,cv,K,_,_⟩:=dL b.ln o_;cases K;have W:wr.cell? (a_ T (i*5+4))=some (I_ ((dQ (all.take i)+x.re.size-1:Nat):Int)):=bV b.ln (qx l (j:=4) o_);have u:=bL (WM _ _ _ _ _ _ _ _ _ C x.re (dQ (all.take i)) wr b.dr (t.o.net.at' i x f));have d:=bL b;have v:=bL H;have B:=bL f;clear b H l f;go_wp2_with fail;refine u.o.mono ?_;clear u O W;rintro e w4 ⟨rfl,f⟩;have u:=bL (d.o.below f);clear f d;cases ee:x.re.iP with
     | true=>obtain⟨rfl,rfl⟩:=E.o.empty p (i:=i) ⟨⟨x,B.o,ee⟩,fun j y l r=>v.o j y l r⟩;clear ee;go_wp2;go_ret3;exact⟨_,rfl,u.o.be,fun e=>by cases e⟩
     | false=>
      have d:Hid (∀(j:Nat) (y:aC),j<i+1->all[j]?=some y->y.re.iP=false):=fun j y l r=>by
       by_cases e:j=i
       .subst e;rw[B.o]at r;cases r;exact ee
       .exact v.o j y o_ r
      clear ee v;go_wp2;go_roundg (all.length-(i+1));exact⟨i+1,o_,rfl,by go_num,u.o,d.o⟩;omega
    .have d3:=nI i all.length;have B:Hid (zq MW all):=fun y r=>by obtain⟨j,l⟩:=gf_ r;exact H j y (by have:=Pu.nW l;omega) l
     have d:=bL b;clear b H;go_wp2_with fail;clear O;go_loopg [10,11] (Pu.aV all) (fun gk u _ f=>∃(m:Nat),m<=Pu.aV all/\gk=Pu.aV all-m/\u=I_ m/\Dl D s all g L z A f/\∀j,j<m->(gJ all j).length<=42);exact⟨0,zl_ _,rfl,rfl,d.o,fun j l=>absurd l (Nat.not_lt_zero _)⟩;clear d;obtain⟨m,ml,rfl,rfl,b,K⟩:=hrel;have W:=bQ 0 b.dr.rb rfl;rw[MD]at W;by_cases hm:m<Pu.aV all
     .have d4:=oL m (Pu.aV all:Int);have wm:=kZ m;have U:=aaP (mode:=(m:Int)) (jw all) t.o.net;have v:(gJ all m).length=(xg all (fQ all).ns (m:Int)).length+1:=U;have SP:0<(xg all (fQ all).ns (m:Int)).length:=by have:=(Jw (mode:=(m:Int)) (jw all) t.o.net);obtain⟨T,hT⟩:=this.hd;rw[this.eq,hT];simp
      have u:=bL (acx g _ (m:Int) _ wr SP (N.o _ g _ all _ (fQ all).ls _ z A _ _ C S o_ (m:Int) wr b.dr b.ln t.o));have d:=bL b;have V:=bL K;have x:=bL v;clear b K U v;go_wp2_with fail;refine u.o.mono ?_;clear u W;rintro e w4 ⟨a4,c4,rfl,f⟩;have u:=bL (d.o.below f);clear f d;generalize hk:(xg all (fQ all).ns (m:Int)).length-1=k at *;by_cases R9:40<k
      .have f:=oL (40:Int) (k:Int);obtain⟨rfl,rfl⟩:=E.o.many p B.o hm (by rw[x.o];omega) V.o;go_wp2;go_ret3;exact⟨_,rfl,u.o.be,fun e=>by cases e⟩
      .have f:=nI (40:Int) (k:Int);have d:Hid (∀j,j<m+1->(gJ all j).length<=42):=fun j l=>by
        by_cases e:j=m
        .subst e;rw[x.o];omega
        .exact V.o j o_
       go_wp2;go_roundg (Pu.aV all-(m+1));exact⟨m+1,o_,rfl,by go_num,u.o,d.o⟩;omega
     .have d4:=nI m (Pu.aV all:Int);obtain⟨rfl,rfl⟩:=E.o.amY p B.o (fun j l=>K j o_);have d:=bL b;clear b K;go_wp2;go_ret3;exact⟨_,rfl,d.o.be,fun _=>⟨all,g,L,z,A,F.o,rfl,d.o⟩⟩
   .rw [a]at Q;have b:decide ((0:Int)<=i)=true:=dt_ o_;obtain⟨rfl,rfl⟩:=E.o.down R;clear c a;go_wp2_with fail;go_quiet (fail);have dn:=bL (bd_ n.o.be nq);go_wp2;go_ret3;exact⟨_,rfl,dn.o,fun e=>by cases e⟩
theorem LU(n:Int)(w:W_):Calls prog 22 #[I_ n] w (mY (I_ n) w):=by
 go_in;go_wp2;go_ret;exact⟨rfl,Br_ _ _⟩
end Go.Proofs.YtmccnmgaoppogabGreat
