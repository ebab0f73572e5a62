import Derived.Test.YtmccnmgaoppogabGreatuWA
import Derived.Deep.RegionWith
import Derived.Deep.Cut
namespace Go.Proofs.YtmccnmgaoppogabGreat
open Pu
set_option linter.all false
open Go.Proofs.Tryz Tryz
set_option maxRecDepth 100000
set_option maxHeartbeats 8000000
open Go.RowKit
theorem IU(r:mg)(m:Nat)(w:W_)(c:1<=m)(d:m<=4) :
  Calls prog 43 #[.agg #[I_ r.emit,I_ r.act,I_ r.mode],I_ m] w (Ai (uM m r) w):=by
 obtain⟨a,b,mode⟩:=r;have fin:∀a b mode:Int,B_ w (w.alloc (c_ #[I_ a,I_ b,I_ mode] 48)):=fun _ _ _=>kM _;go_in;go_wp2;all_goals go_ret
 all_goals refine nU ?_ (fin _ _ _)
 all_goals unfold uM
 all_goals simp only[beq_iff_eq,Bool.or_eq_true,Bool.false_eq_true,false_iff,true_iff]at *
 all_goals first | omega | skip
 go_ways
theorem Ml(x:ed)(k n:Nat)(w:W_)(d:k<=16)(e:n<=50000) :
  Calls prog 44 #[.agg #[I_ x.op,I_ x.a,I_ x.b,I_ x.bH],I_ k,I_ n] w (Ai (qm k n x) w):=by
 obtain⟨c,a,b,bH⟩:=x;have fin:∀c a b bH:Int,B_ w (w.alloc (c_ #[I_ c,I_ a,I_ b,I_ bH] 50)):=fun _ _ _ _=>kM _;go_in;go_wp2;all_goals go_ret
 all_goals refine nU ?_ (fin _ _ _ _)
 all_goals unfold qm
 all_goals simp only[beq_iff_eq,ne_eq,beq_eq_false_iff_ne,decide_eq_true_eq,Bool.false_eq_true,false_iff]at *
 all_goals first | omega | skip
 go_ways
theorem Tryz.info4 : (prog.info? 4).map (fun i=>(i.zero,i.size,i.bytes))=some (some (.bool false),1,1):=k_
def pY(l:List Bool):List V_:=l.map Value.bool
theorem Io(l:List Bool)(i:Nat)(h:i<l.length):(pY l)[i]?=some (.bool (Pu.bg l i)):=by simp[pY,Pu.bg,gg_ h]
theorem SY(n:Nat):(madeCells (Value.bool false).cells (n*1)).toList=pY (List.replicate n false):=by simp only[madeCells,pY,Value.cells,Nat.mul_one,List.map_replicate];rw[List.eq_replicate_iff];simp[Nat.mod_one]
theorem Ip(L:List Bool)(v:Nat)(y:Bool):(pY L).set v (.bool y)=pY (L.set v y):=by simp[pY,List.map_set]
def vg(B:Nat)(wr:W_)(g n:Nat)(L:List Bool):Prop:=wr.ownsRow B 4 1 (s_ g n n) n (pY L)
theorem vg.cell{B:Nat}{wr:W_}{g n:Nat}{L:List Bool}(h:vg B wr g n L){v:Nat}(b:v<L.length):wr.cell? (a_ g v)=some (.bool (Pu.bg L v)):=by
 have:=h.cells (g:=g) rfl v _ (Io L v b);by_cases a:v=0
 .subst a;simpa [Addr.add]using this
 .simpa [Addr.add,a]using this
theorem vg.frozen{B:Nat}{wr:W_}{g n:Nat}{L:List Bool}(h:vg B wr g n L)(v:Nat):wr.frozen? (a_ g v)=false:=World.ownsRow.frozenAt h v
theorem vg.store{B:Nat}{wr:W_}{g n:Nat}{L:List Bool}(h:vg B wr g n L)(v:Nat)(y:Bool):vg B (wr.setCell (a_ g v) (.bool y)) g n (L.set v y):=by have:=(World.ownsRow.stored h v (.bool y)).1;rw[Ip]at this;exact this
theorem Oe(v:V_)(l:List ed)(B g:Nat)(L:List Bool)(i:Int)(w:W_)(y:Code w v l)(d:vg B w g l.length L)(D:L.length=l.length)(p:oH l)(z:l.length<=50000)(r:0<=i)(yV:i<l.length) :
  C_ 66 #[v,s_ g l.length l.length,I_ i] w fun e w'=>e=.returned (.bool (qc l L i.toNat))/\w=w':=by
 obtain⟨k,rfl⟩:=Int.eq_ofNat_of_zero_le r;rw[tn_];have x:k<l.length:=o_;have f:=p k x;obtain⟨I,C,rfl,E,F,n⟩:=y.read;obtain⟨b,H,rfl,A,q,s,u,t⟩:=n k x;clear n y A s u;by_cases a:(Pu.aO l k).op=1
 .have s:k+1<l.length:=f.1 (.inl a);rw[ajk a];have u:=d.cell (v:=k+1) o_;rw[a]at q;clear f d p a t;go_enter func66,ntmps66;go_wp2;go_ret;exact⟨rfl,rfl⟩
 by_cases c:(Pu.aO l k).op=3
 .have s:k+1<l.length:=f.1 (.inr c);have n:=f.2 (.inl c);change 0<=(Pu.aO l k).bH/\(Pu.aO l k).bH<l.length at n;rw[ajl c];have u:=d.cell (v:=k+1) o_;have G:=d.cell (v:=(Pu.aO l k).bH.toNat) o_;rw[c]at q;generalize (Pu.aO l k).bH=A at *;clear f d p a c;cases hq:Pu.bg L (k+1);all_goals
   rw[hq]at u;go_enter func66,ntmps66;go_wp2;go_ret;exact⟨A9 i_,rfl⟩
 by_cases j:(Pu.aO l k).op=4;have n:=f.2 (.inr j);change 0<=(Pu.aO l k).bH/\(Pu.aO l k).bH<l.length at n;rw[ajm j];have G:=d.cell (v:=(Pu.aO l k).bH.toNat) o_;rw[j]at q;generalize (Pu.aO l k).bH=A at *;clear f d p a c j;rotate_left;focus
  rw[ajj a c j];generalize (Pu.aO l k).op=s at *;have u:(s == 1)=false:=by simpa using a
  have J:(s == 3)=false:=by simpa using c
  have K:(s == 4)=false:=by simpa using j
  clear f d p t a c j
 all_goals
  go_enter func66,ntmps66;go_wp2;go_ret;exact⟨rfl,rfl⟩
def Rp:V_->Nat | .bool true=>1 | _=>0
theorem vg.lt{B:Nat}{wr:W_}{g n:Nat}{L:List Bool}(h:vg B wr g n L):B<=g/\g<wr.heap.size:=ol_ h g rfl
theorem XV(v:V_)(l:List ed)(w:W_)(D:Code w v l)(L:oH l)(K:l.length<=50000) :
  Calls prog 45 #[v] w (Ai (wW l) w):=by
 obtain⟨aS,U,F,G,H⟩:=ip_ info4;have y:=bL L;clear L;have I:=bL D;obtain⟨Y,Q,rfl,s,S,-⟩:=D.read;clear D;go_in;go_wp2_with (at_make;refine wpList_make_full _ rfl _ _ 153 rfl w.heap.size 4 aS (.bool false) 1 underlying153 U F G _ _ _ _ l.length rfl rfl rfl rfl (by rw[H];omega) (by unfold maxLen;omega) dF ?_;intro N a c);have e:B_ w N:=(Br_ _ _).grown c dF (fun k h=>by cases h);rw[SY]at a;have b:Hid (vg w.heap.size N w.heap.size l.length (List.replicate l.length false)):=a;clear a c;go_loopw [4,5] (fun c d wr=>∃(E:List Bool) (more:Bool),c=I_ ((E.count false:Nat):Int)/\d=.bool more/\B_ w wr/\vg w.heap.size wr w.heap.size l.length E/\E.length=l.length/\E8 l E/\(more=false->EU l E (2*l.length))) (fun c d _=>2*(intOf c).toNat+Rp d);exact⟨_,true,i_,rfl,e,b.o,i_,Uh l _,fun h=>Bool.noConfusion h⟩;clear b e;obtain⟨E,more,rfl,rfl,i,z,f,u,C⟩:=hrel;cases more
 .have a:Hid ((((E.count false:Nat):Int) == 0)=true↔wW l):=acg y.o ⟨f,u,dF,fun h=>Bool.noConfusion h,C⟩ dF;clear C u z f;go_wp2;go_ret;exact nU a.o i
 .have g:=bL (TC f u);have R:E.count false<=l.length:=by have:=Pu.count_le E;omega
  clear C u f;generalize a:E.count false=O at *;have j:=bL a;clear a;go_wp2_with fail;go_loopw [4,5,6] (fun c d e n=>∃(b:List Bool) (a:Bool) (k:Nat),k<=2*l.length/\c=I_ ((b.count false:Nat):Int)/\d=.bool a/\e=I_ k/\B_ w n/\vg w.heap.size n w.heap.size l.length b/\Pu.Pass l b a k O) (fun _ _ e _=>2*l.length-(intOf e).toNat);exact⟨E,false,0,o_,by rw[j.o],rfl,rfl,i,z,g.o⟩;clear g j i z;obtain⟨b,a,k,Z,rfl,rfl,rfl,p,c,d⟩:=hrel;have f:=d.len;have r:=bL f;have T:b.count false<=l.length:=by have:=Pu.count_le b;omega
  have g:=bL d;clear d;by_cases W:k<2*l.length
  .by_cases V:k<l.length
   .have B:decide ((l.length:Int)<=k)=false:=by simp;omega
    have n:k<l.length:=o_;have t:=c.cell (v:=k) o_;have A:=c.frozen (k);clear f;cases hb:Pu.bg b (k)
    .rw [hb]at t;go_wp2_with fail;refine (Oe _ l w.heap.size w.heap.size b (k:Int) _ (I.o.below p) c r.o y.o K o_ o_).mono ?_;rintro e X ⟨rfl,rfl⟩;have d:Int.toNat ((k:Int))=k:=o_;rw[d];clear d;cases hen:qc l b (k)
     .go_wp2;go_roundw;case rel=>exact⟨b,a,k+1,o_,rfl,rfl,by go_num,p,c,zf g.o (fun d=>.inr hen)⟩
      case measure=>simp[intOf];omega
     .have d:=PX g.o n hb hen;have x:=bL d.1;have j:=d.2;have s:1<=b.count false:=o_;have q:Hid (((b.count false:Nat):Int)-1=(((b.set (k) true).count false:Nat):Int)):=by show ((b.count false:Nat):Int)-1=_;omega
      clear d j;go_wp2;go_roundw;case rel=>exact⟨b.set (k) true,true,k+1,o_,by rw[q.o],rfl,by go_num,p.setCell dF _,c.store _ _,x.o⟩
      case measure=>simp[intOf];omega
    .rw [hb]at t;go_wp2;go_roundw;case rel=>exact⟨b,a,k+1,o_,rfl,rfl,by go_num,p,c,zf g.o (fun d=>.inl hb)⟩
     case measure=>simp[intOf];omega
   .have B:decide ((l.length:Int)<=k)=true:=by simp;omega
    have J:l.length<=k:=o_;have n:2*l.length-1-k<l.length:=o_;have t:=c.cell (v:=2*l.length-1-k) o_;have A:=c.frozen (2*l.length-1-k);clear f;cases hb:Pu.bg b (2*l.length-1-k)
    .rw [hb]at t;go_wp2_with fail;refine (Oe _ l w.heap.size w.heap.size b (2*(l.length:Int)-1-(k:Int)) _ (I.o.below p) c r.o y.o K o_ o_).mono ?_;rintro e X ⟨rfl,rfl⟩;have d:Int.toNat ((2*(l.length:Int)-1-(k:Int)))=2*l.length-1-k:=o_;rw[d];clear d;cases hen:qc l b (2*l.length-1-k)
     .go_wp2;go_roundw;case rel=>exact⟨b,a,k+1,o_,rfl,rfl,by go_num,p,c,zf g.o (fun d=>absurd d o_)⟩
      case measure=>simp[intOf];omega
     .have d:=PX g.o n hb hen;have x:=bL d.1;have j:=d.2;have s:1<=b.count false:=o_;have q:Hid (((b.count false:Nat):Int)-1=(((b.set (2*l.length-1-k) true).count false:Nat):Int)):=by show ((b.count false:Nat):Int)-1=_;omega
      clear d j;go_wp2;go_roundw;case rel=>exact⟨b.set (2*l.length-1-k) true,true,k+1,o_,by rw[q.o],rfl,by go_num,p.setCell dF _,c.store _ _,x.o⟩
      case measure=>simp[intOf];omega
    .rw [hb]at t;go_wp2;go_roundw;case rel=>exact⟨b,a,k+1,o_,rfl,rfl,by go_num,p,c,zf g.o (fun d=>absurd d o_)⟩
     case measure=>simp[intOf];omega
  .have j:k=2*l.length:=o_;have n:=g.o.le;have d:=g.o.lt;have e:=bL d;clear d;go_wp2;go_roundw;case rel=>exact⟨b,a,rfl,rfl,p,c,r.o,g.o.sound,fun d=>by rw[<-j];exact g.o.quiet d⟩
   case measure=>
    have:=e.o;cases a
    .simp [intOf,Rp];omega
    .have:=this rfl;simp[intOf,Rp];omega
theorem Mi(i j g:V_)(p:lZ)(w:W_)(e:om w i p.ents)(f:jX w j p.rules)(d:Code w g p.code)
  (b:¬((1<=p.ents.length/\p.ents.length<=4)/\(1<=p.rules.length/\p.rules.length<=16)/\(1<=p.code.length/\p.code.length<=50000))) :
  C_ 17 #[.agg #[i,j,g]] w (Ai (gu p) w):=by
 obtain⟨l,r,rfl,v,x,-⟩:=e.read;obtain⟨n,s,rfl,E,F,-⟩:=f.read;obtain⟨k,q,rfl,t,u,-⟩:=d.read;clear e f d;have fin:B_ w (w.alloc (c_ #[.slice l p.ents.length r,.slice n p.rules.length s,.slice k p.code.length q] 42)):=kM _;have a:=bL fin;clear fin;have c:=bL b;clear b;by_cases A:p.ents.length<1
 .go_enter func17,ntmps17;go_wp2;go_ret;exact nU (eF (fun h=>by have:=h.1.1;omega)) a.o
 by_cases B:4<p.ents.length
 .go_enter func17,ntmps17;go_wp2;go_ret;exact nU (eF (fun h=>by have:=h.1.1;omega)) a.o
 by_cases y:p.rules.length<1
 .go_enter func17,ntmps17;go_wp2;go_ret;exact nU (eF (fun h=>by have:=h.2.1.1;omega)) a.o
 by_cases z:16<p.rules.length
 .go_enter func17,ntmps17;go_wp2;go_ret;exact nU (eF (fun h=>by have:=h.2.1.1;omega)) a.o
 by_cases C:p.code.length<1
 .go_enter func17,ntmps17;go_wp2;go_ret;exact nU (eF (fun h=>by have:=h.2.2.1.1;omega)) a.o
 by_cases D:50000<p.code.length
 .go_enter func17,ntmps17;go_wp2;go_ret;exact nU (eF (fun h=>by have:=h.2.2.1.1;omega)) a.o
 .exact absurd (c.o) o_
theorem IQ(ve vr vc:V_)(p:lZ)(w:W_)(hE:om w ve p.ents)(hR:jX w vr p.rules)(R:Code w vc p.code)
  (E:1<=p.ents.length) (F:p.ents.length<=4) (U:1<=p.rules.length) (D:p.rules.length<=16) (V:1<=p.code.length) (G:p.code.length<=50000) :
  Calls prog 17 #[.agg #[ve,vr,vc]] w (Ai (gu p) w):=by
 obtain⟨s,u,rfl,he1,he2,W⟩:=hE.read;obtain⟨t,v,rfl,hr1,hr2,K⟩:=hR.read;obtain⟨r,q,rfl,hc1,hc2,y⟩:=R.read;have HC:=bL R;clear hE hR R;have d1:decide ((p.ents.length:Int)<1)=false:=by simp;omega
 have d2:decide (4<(p.ents.length:Int))=false:=by simp;omega
 have d3:decide ((p.rules.length:Int)<1)=false:=by simp;omega
 have d4:decide (16<(p.rules.length:Int))=false:=by simp;omega
 have d5:decide ((p.code.length:Int)<1)=false:=by simp;omega
 have d6:decide (50000<(p.code.length:Int))=false:=by simp;omega
 go_in;go_wp2;have f:B_ w (w.alloc (c_ #[.slice s p.ents.length u,.slice t p.rules.length v,.slice r p.code.length q] 42)):=kM _;have a:(w.alloc (c_ #[.slice s p.ents.length u,.slice t p.rules.length v,.slice r p.code.length q] 42)).heap.size=w.heap.size+1:=i_;have c0:(w.alloc (c_ #[.slice s p.ents.length u,.slice t p.rules.length v,.slice r p.code.length q] 42)).cell? (a_ w.heap.size 0)=some (.slice s p.ents.length u):=i_;have Z:(w.alloc (c_ #[.slice s p.ents.length u,.slice t p.rules.length v,.slice r p.code.length q] 42)).cell? (a_ w.heap.size 1)=some (.slice t p.rules.length v):=i_;have c2:(w.alloc (c_ #[.slice s p.ents.length u,.slice t p.rules.length v,.slice r p.code.length q] 42)).cell? (a_ w.heap.size 2)=some (.slice r p.code.length q):=i_;generalize w.alloc (c_ #[.slice s p.ents.length u,.slice t p.rules.length v,.slice r p.code.length q] 42)=z at *;have X:=bL a;clear a;go_loop [5] (fun i=>∃k:Nat,k<=p.ents.length/\i=I_ k/\∀j,j<k->0<=Pu.aU p.ents j/\Pu.aU p.ents j<p.code.length) (fun i=>p.ents.length-(intOf i).toNat);exact⟨0,zl_ _,rfl,fun j b=>o_⟩;obtain⟨k,I,rfl,b⟩:=hrel;have n:=bL b;clear b;by_cases d:k<p.ents.length
 .obtain⟨b,c,rfl,i,a⟩:=W k d;have B:=(f.cell (p:=(a_ b (c+k))) i).trans a;clear W K y a;by_cases a:Pu.aU p.ents k<0
  .have e:decide (Pu.aU p.ents k<0)=true:=by simpa using a
   go_wp2;go_ret;exact nU (eF (fun h=>by have:=h.1.2 k d;omega)) f
  by_cases g:Pu.aU p.ents k<p.code.length;all_goals
   have e:decide (Pu.aU p.ents k<0)=false:=by simpa using a
   go_wp2
  .go_round;case rel=>exact⟨k+1,o_,by go_num,sQ n.o o_⟩
   case measure=>simp[intOf];omega
  .go_ret;exact nU (eF (fun h=>by have:=h.1.2 k d;omega)) f
 .have l:k=p.ents.length:=o_;subst l;have L:Hid (EN p.ents p.code.length):=⟨⟨E,F⟩,n.o⟩;clear n W d I;go_wp2_with fail;go_loopw [6] (fun i wr=>∃k:Nat,k<=p.rules.length/\i=I_ k/\Below (w.heap.size+1) z wr/\∀j,j<k->uM p.ents.length (Pu.rg p.rules j)) (fun i _=>p.rules.length-(intOf i).toNat);exact⟨0,zl_ _,rfl,Br_ _ _,fun j b=>o_⟩;obtain⟨k,I,rfl,a,b⟩:=hrel;have n:=bL b;clear b;have aW:=(a.cell (p:=(a_ w.heap.size 0)) i_).trans c0;have H:=(a.cell (p:=(a_ w.heap.size 1)) i_).trans Z;have J:=(a.cell (p:=(a_ w.heap.size 2)) i_).trans c2;by_cases d:k<p.rules.length
  .obtain⟨b,c,rfl,i,e,g,j⟩:=K k d;have B:=(a.cell (p:=(a_ b (c+k*3))) (by simp;omega)).trans ((f.cell (p:=(a_ b (c+k*3))) i).trans e);have C:=(a.cell (p:=(a_ b (c+k*3+1))) (by simp;omega)).trans ((f.cell (p:=(a_ b (c+k*3+1))) i).trans g);have O:=(a.cell (p:=(a_ b (c+k*3+2))) (by simp;omega)).trans ((f.cell (p:=(a_ b (c+k*3+2))) i).trans j);clear K y e g j;go_wp2_with fail;refine (IU (Pu.rg p.rules k) p.ents.length _ E F).mono ?_;rintro e Q ⟨A,rfl,g,j⟩;have x:Below (w.heap.size+1) z Q:=a.trans (j.mono (by have:=a.size;rw[X.o]at this;exact this));clear B C O j aW H J;cases A
   .go_wp2;go_ret;exact nU (eF (fun h=>Bool.noConfusion (g.2 (h.2.1.2 k d)))) (f.trans (x.mono o_))
   .have j:=bL (g.1 rfl);clear g;go_wp2;go_roundw;case rel=>exact⟨k+1,o_,by go_num,x,sQ n.o j.o⟩
    case measure=>simp[intOf];omega
  .have l:k=p.rules.length:=o_;subst l;have N:Hid (uo p.rules p.ents.length):=⟨⟨U,D⟩,n.o⟩;clear n K d I aW J;go_wp2_with fail;go_loopw [8] (fun i wr=>∃k:Nat,k<=p.code.length/\i=I_ k/\Below (w.heap.size+1) z wr/\∀j,j<k->qm p.rules.length p.code.length (Pu.aO p.code j)) (fun i _=>p.code.length-(intOf i).toNat);exact⟨0,zl_ _,rfl,a,fun j b=>o_⟩;clear a H;obtain⟨k,I,rfl,a,b⟩:=hrel;have n:=bL b;clear b;have H:=(a.cell (p:=(a_ w.heap.size 1)) i_).trans Z;have J:=(a.cell (p:=(a_ w.heap.size 2)) i_).trans c2;by_cases d:k<p.code.length
   .obtain⟨b,c,rfl,i,e,g,j,x⟩:=y k d;have B:=(a.cell (p:=(a_ b (c+k*4))) (by simp;omega)).trans ((f.cell (p:=(a_ b (c+k*4))) i).trans e);have C:=(a.cell (p:=(a_ b (c+k*4+1))) (by simp;omega)).trans ((f.cell (p:=(a_ b (c+k*4+1))) i).trans g);have O:=(a.cell (p:=(a_ b (c+k*4+2))) (by simp;omega)).trans ((f.cell (p:=(a_ b (c+k*4+2))) i).trans j);have S:=(a.cell (p:=(a_ b (c+k*4+3))) (by simp;omega)).trans ((f.cell (p:=(a_ b (c+k*4+3))) i).trans x);clear y e g j x;go_wp2_with fail;go_region_with (go_at_call 44;refine (Ml (Pu.aO p.code k) p.rules.length p.code.length _ D G).mono ?_;rintro e Q ⟨A,rfl,g,j⟩);all_goals
     have x:Below (w.heap.size+1) z Q:=a.drew.trans (j.mono (by have:=a.size;rw[X.o]at this;simpa using this));clear B C O S j H J;cases A
     .go_wp2;go_ret;exact nU (eF (fun h=>Bool.noConfusion (g.2 (h.2.2.1.2.1 k d)))) (f.trans (x.mono o_))
     .have j:=bL (g.1 rfl);clear g;go_wp2;go_roundw;case rel=>exact⟨k+1,o_,by go_num,x,sQ n.o j.o⟩
      case measure=>simp[intOf];omega
   .have l:k=p.code.length:=o_;subst l;obtain⟨b,c,rfl,i,e,-⟩:=y (p.code.length-1) o_;have B:=(a.cell (p:=⟨b,c+(p.code.length-1)*4,none⟩) (by simp;omega)).trans ((f.cell (p:=⟨b,c+(p.code.length-1)*4,none⟩) i).trans e);clear y e H;generalize e:(Pu.aO p.code (p.code.length-1)).op=x at *;have Y:=bL e;clear e;by_cases g:x=4\/x=5
    .have j:Hid (uI p.code p.rules.length):=⟨⟨V,G⟩,n.o,by rw[Y.o];exact g⟩;have hz:z.heap.size<=wr.heap.size:=a.size;have S:Hid (Code wr (.slice (some (a_ b c)) p.code.length q) p.code):=HC.o.below (f.trans (a.mono o_));have T:B_ w wr:=f.trans (a.mono o_);by_cases e:x=4;have A:(x != 4)=false:=by simp[e]
     rotate_left;focus
      have A:(x != 4)=true:=by simpa using e
      have O:(x != 5)=false:=by simp;omega
     all_goals
      clear g e;go_wp2_with fail;refine (XV _ p.code _ S.o j.o.tight o_).mono ?_;rintro e w4 ⟨b4,rfl,C,Q⟩;have AA:=ja T Q;go_wp2;go_ret;exact nU ⟨fun h=>⟨L.o,N.o,j.o,C.1 h⟩,fun h=>C.2 h.2.2.2⟩ AA
    .have A:(x != 4)=true:=by simp;omega
     have O:(x != 5)=true:=by simp;omega
     have e:=bL g;clear g;go_wp2;go_ret;exact nU (eF (fun h=>e.o (by rw[<-Y.o];exact h.2.2.1.2.2))) (f.trans (a.mono o_))
theorem AZ(b c a:V_)(p:lZ)(w:W_)(e:om w b p.ents)(f:jX w c p.rules)(d:Code w a p.code) :
  C_ 17 #[.agg #[b,c,a]] w (Ai (gu p) w):=by
 by_cases h:(1<=p.ents.length/\p.ents.length<=4)/\(1<=p.rules.length/\p.rules.length<=16)/\(1<=p.code.length/\p.code.length<=50000)
 .exact IQ b c a p w e f d h.1.1 h.1.2 h.2.1.1 h.2.1.2 h.2.2.1 h.2.2.2
 .exact Mi b c a p w e f d h
end Go.Proofs.YtmccnmgaoppogabGreat
