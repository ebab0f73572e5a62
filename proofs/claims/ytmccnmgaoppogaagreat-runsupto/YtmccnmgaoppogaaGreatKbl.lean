import Derived.Deep.RegionWith
import Derived.Deep.Cut
import Derived.Test.YtmccnmgaoppogaaGreatKbf
namespace Go.Proofs.YtmccnmgaoppogaaGreat
open Pu
set_option linter.all false
set_option maxRecDepth 100000
set_option maxHeartbeats 8000000
open Go.RowKit
theorem GV (r:mJ) (m:Nat) (w:W_) (_hm1:1<=m) (_hm:m<=4) :
  C_ 67 #[.agg #[I_ r.emit,I_ r.act,I_ r.mode],I_ m] w (zf (tJ m r) w):=by
 obtain⟨emit,act,mode⟩:=r;have fin:∀emit act mode:Int,B_ w (w.alloc (c_ #[I_ emit,I_ act,I_ mode] 59)):=fun _ _ _=>mi _
 go_enter Tryz.func67,Tryz.ntmps67;go_wp2
 all_goals go_ret
 all_goals refine mQ ?_ (fin _ _ _)
 all_goals unfold tJ
 all_goals simp only [beq_iff_eq,Bool.or_eq_true,Bool.false_eq_true,false_iff,true_iff] at *
 all_goals first | omega | skip
 go_ways
theorem JO (x:dY) (k n:Nat) (w:W_) (_hk:k<=16) (_hn:n<=50000) :
  C_ 68 #[.agg #[I_ x.op,I_ x.a,I_ x.b,I_ x.bG],I_ k,I_ n] w (zf (rz k n x) w):=by
 obtain⟨op,a,b,bG⟩:=x;have fin:∀op a b bG:Int,B_ w (w.alloc (c_ #[I_ op,I_ a,I_ b,I_ bG] 61)):=fun _ _ _ _=>mi _
 go_enter Tryz.func68,Tryz.ntmps68;go_wp2
 all_goals go_ret
 all_goals refine mQ ?_ (fin _ _ _ _)
 all_goals unfold rz
 all_goals simp only [beq_iff_eq,ne_eq,beq_eq_false_iff_ne,decide_eq_true_eq,Bool.false_eq_true,false_iff] at *
 all_goals first | omega | skip
 go_ways
theorem Tryz.info4 : (Tryz.prog.info? 4).map (fun i=>(i.zero,i.size,i.bytes))=some (some (.bool false),1,1):=by kernel_rfl
def oV (l:List Bool):List V_:=l.map Value.bool
theorem Gs (l:List Bool) (i:Nat) (h:i<l.length):(oV l)[i]?=some (.bool (Pu.bg l i)):=by simp [oV,Pu.bg,gg_ h]
theorem P9 (n:Nat):(madeCells (Value.bool false).cells (n*1)).toList=oV (List.replicate n false):=by simp only [madeCells,oV,Value.cells,Nat.mul_one,List.map_replicate];rw [List.eq_replicate_iff];simp [Nat.mod_one]
theorem Gt (L:List Bool) (v:Nat) (y:Bool):(oV L).set v (.bool y)=oV (L.set v y):=by simp [oV,List.map_set]
def vV (B:Nat) (wr:W_) (g n:Nat) (L:List Bool):Prop:=wr.ownsRow B 4 1 (s_ g n n) n (oV L)
theorem vV.cell {B:Nat} {wr:W_} {g n:Nat} {L:List Bool} (h:vV B wr g n L) {v:Nat} (hv:v<L.length):wr.cell? (a_ g v)=some (.bool (Pu.bg L v)):=by
 have:=h.cells (g:=g) rfl v _ (Gs L v hv);by_cases hj:v=0
 .subst hj;simpa [Addr.add] using this
 .simpa [Addr.add,hj] using this
theorem vV.frozen {B:Nat} {wr:W_} {g n:Nat} {L:List Bool} (h:vV B wr g n L) (v:Nat):wr.frozen? (a_ g v)=false:=World.ownsRow.frozenAt h v
theorem vV.store {B:Nat} {wr:W_} {g n:Nat} {L:List Bool} (h:vV B wr g n L) (v:Nat) (y:Bool):vV B (wr.setCell (a_ g v) (.bool y)) g n (L.set v y):=by have:=(World.ownsRow.stored h v (.bool y)).1;rw [Gt] at this;exact this
theorem Lx (v:V_) (l:List dY) (B g:Nat) (L:List Bool) (i:Int) (w:W_) (hv:Code w v l) (hL:vV B w g l.length L) (hLl:L.length=l.length) (ht:nJ l) (_hn:l.length<=50000) (hi0:0<=i) (xL:i<l.length) :
  C_ 102 #[v,s_ g l.length l.length,I_ i] w fun e w'=>e=.returned (.bool (oW l L i.toNat))/\w=w':=by
 obtain⟨k,rfl⟩:=Int.eq_ofNat_of_zero_le hi0;rw [tn_];have hk:k<l.length:=by omega
 have hT:=ht k hk;obtain⟨ao,cap,rfl,hc1,hc2,nK⟩:=hv.read;obtain⟨b,off,rfl,hb,g0,g1,g2,g3⟩:=nK k hk;clear nK hv hb g1 g2;by_cases h1:(Pu.aO l k).op=1
 .have hk1:k+1<l.length:=hT.1 (.inl h1);rw [agE h1];have hc:=hL.cell (v:=k+1) (by omega);rw [h1] at g0;clear hT hL ht h1 g3;go_enter Tryz.func102,Tryz.ntmps102;go_wp2;go_ret;exact⟨rfl,rfl⟩
 by_cases h3:(Pu.aO l k).op=3
 .have hk1:k+1<l.length:=hT.1 (.inr h3);have hto:=hT.2 (.inl h3)
  change 0<=(Pu.aO l k).bG/\(Pu.aO l k).bG<l.length at hto
  rw [agF h3];have hc:=hL.cell (v:=k+1) (by omega);have hd:=hL.cell (v:=(Pu.aO l k).bG.toNat) (by omega);rw [h3] at g0;generalize (Pu.aO l k).bG=bG at *;clear hT hL ht h1 h3;cases hq:Pu.bg L (k+1)
  all_goals
   rw [hq] at hc;go_enter Tryz.func102,Tryz.ntmps102;go_wp2;go_ret;exact⟨zR (by simp),rfl⟩
 by_cases h4:(Pu.aO l k).op=4
 focus
  have hto:=hT.2 (.inr h4)
  change 0<=(Pu.aO l k).bG/\(Pu.aO l k).bG<l.length at hto
  rw [agG h4];have hd:=hL.cell (v:=(Pu.aO l k).bG.toNat) (by omega);rw [h4] at g0;generalize (Pu.aO l k).bG=bG at *;clear hT hL ht h1 h3 h4
 rotate_left
 focus
  rw [agD h1 h3 h4];generalize (Pu.aO l k).op=op at *;have e1:(op == 1)=false:=by simpa using h1
  have e3:(op == 3)=false:=by simpa using h3
  have e4:(op == 4)=false:=by simpa using h4
  clear hT hL ht g3 h1 h3 h4
 all_goals
  go_enter Tryz.func102,Tryz.ntmps102;go_wp2;go_ret;exact⟨rfl,rfl⟩
def Pf:V_->Nat | .bool true=>1 | _=>0
theorem VD (v:V_) (l:List dY) (w:W_) (hv:Code w v l) (ht:nJ l) (hn:l.length<=50000) :
  C_ 69 #[v] w (zf (wo l) w):=by
 obtain⟨aS,hi,hz0,hz1,hz2⟩:=ip_ Tryz.info4;have HT:=bK ht;clear ht;have HV:=bK hv;obtain⟨ao,cap,rfl,hc1,hc2,-⟩:=hv.read;clear hv;go_enter Tryz.func69,Tryz.ntmps69
 go_wp2_with (at_make;refine wpList_make_full _ rfl _ _ 203 rfl w.heap.size 4 aS (.bool false) 1 Tryz.underlying203 hi hz0 hz1 _ _ _ _ l.length rfl rfl rfl rfl (by rw [hz2];omega) (by unfold maxLen;omega) di ?_;intro w1 fH lT)
 have iE:B_ w w1:=(Br_ _ _).grown lT di (fun k h=>by cases h);rw [P9] at fH;have HO:Hid (vV w.heap.size w1 w.heap.size l.length (List.replicate l.length false)):=fH;clear fH lT
 go_loopw [4,5] (fun lf mr wr=>∃(E:List Bool) (more:Bool),lf=I_ ((E.count false:Nat):Int)/\mr=.bool more/\B_ w wr/\vV w.heap.size wr w.heap.size l.length E/\E.length=l.length/\Dv l E/\(more=false->Dn l E (2*l.length))) (fun lf mr _=>2*(intOf lf).toNat+Pf mr)
 case atStart=>exact⟨_,true,by simp,rfl,iE,HO.o,by simp,QU l _,fun h=>Bool.noConfusion h⟩
 case round=>
  clear HO iE;obtain⟨E,more,rfl,rfl,hbel,hE,hEl,Jp,hq⟩:=hrel;cases more
  .have HF:Hid ((((E.count false:Nat):Int) == 0)=true↔wo l):=ZR HT.o ⟨hEl,Jp,di,fun h=>Bool.noConfusion h,hq⟩ di;clear hq Jp hE hEl;go_wp2;go_ret;exact mQ HF.o hbel
  .have HP:=bK (Qq hEl Jp);have hL0:E.count false<=l.length:=by have:=Pu.count_le E;omega
   clear hq Jp hEl;generalize hL:E.count false=L0 at *;have HL:=bK hL;clear hL
   go_wp2_with fail
   go_loopw [4,5,6] (fun lf mr kv wq=>∃(E':List Bool) (more':Bool) (k:Nat),k<=2*l.length/\lf=I_ ((E'.count false:Nat):Int)/\mr=.bool more'/\kv=I_ k/\B_ w wq/\vV w.heap.size wq w.heap.size l.length E'/\Pu.Pass l E' more' k L0) (fun _ _ kv _=>2*l.length-(intOf kv).toNat)
   case atStart=>exact⟨E,false,0,by omega,by rw [HL.o],rfl,rfl,hbel,hE,HP.o⟩
   case round=>
    clear HP HL hbel hE;obtain⟨E',more',k,hk,rfl,rfl,rfl,lu,hEq,YW⟩:=hrel;have hEl:=YW.len;have HEl:=bK hEl;have hcl:E'.count false<=l.length:=by have:=Pu.count_le E';omega
    have HP:=bK YW;clear YW;by_cases hlt:k<2*l.length
    .by_cases hkn:k<l.length
     .have hkd:decide ((l.length:Int)<=k)=false:=by simp;omega
      have hidx:k<l.length:=by omega
      have qD:=hEq.cell (v:=k) (by omega);have hfz:=hEq.frozen (k);clear hEl;cases hb:Pu.bg E' (k)
      .rw [hb] at qD
       go_wp2_with fail
       refine (Lx _ l w.heap.size w.heap.size E' (k:Int) _ (HV.o.below lu) hEq HEl.o HT.o hn (by omega) (by omega)).mono ?_
       rintro e w' ⟨rfl,rfl⟩;have hix:Int.toNat ((k:Int))=k:=by omega
       rw [hix];clear hix;cases hen:oW l E' (k)
       .go_wp2
        go_roundw
        case rel=>exact⟨E',more',k+1,by omega,rfl,rfl,by go_num,lu,hEq,xQ HP.o (fun hkl=>.inr hen)⟩
        case measure=>simp [intOf];omega
       .have hset:=Nr HP.o hidx hb hen;have HS:=bK hset.1;have hcnt:=hset.2;have hc1:1<=E'.count false:=by omega
        have HCN:Hid (((E'.count false:Nat):Int)-1=(((E'.set (k) true).count false:Nat):Int)):=by show ((E'.count false:Nat):Int)-1=_;omega
        clear hset hcnt;go_wp2
        go_roundw
        case rel=>exact⟨E'.set (k) true,true,k+1,by omega,by rw [HCN.o],rfl,by go_num,lu.setCell di _,hEq.store _ _,HS.o⟩
        case measure=>simp [intOf];omega
      .rw [hb] at qD;go_wp2
       go_roundw
       case rel=>exact⟨E',more',k+1,by omega,rfl,rfl,by go_num,lu,hEq,xQ HP.o (fun hkl=>.inl hb)⟩
       case measure=>simp [intOf];omega
     .have hkd:decide ((l.length:Int)<=k)=true:=by simp;omega
      have hkn':l.length<=k:=by omega
      have hidx:2*l.length-1-k<l.length:=by omega
      have qD:=hEq.cell (v:=2*l.length-1-k) (by omega);have hfz:=hEq.frozen (2*l.length-1-k);clear hEl;cases hb:Pu.bg E' (2*l.length-1-k)
      .rw [hb] at qD
       go_wp2_with fail
       refine (Lx _ l w.heap.size w.heap.size E' (2*(l.length:Int)-1-(k:Int)) _ (HV.o.below lu) hEq HEl.o HT.o hn (by omega) (by omega)).mono ?_
       rintro e w' ⟨rfl,rfl⟩;have hix:Int.toNat ((2*(l.length:Int)-1-(k:Int)))=2*l.length-1-k:=by omega
       rw [hix];clear hix;cases hen:oW l E' (2*l.length-1-k)
       .go_wp2
        go_roundw
        case rel=>exact⟨E',more',k+1,by omega,rfl,rfl,by go_num,lu,hEq,xQ HP.o (fun hkl=>absurd hkl (by omega))⟩
        case measure=>simp [intOf];omega
       .have hset:=Nr HP.o hidx hb hen;have HS:=bK hset.1;have hcnt:=hset.2;have hc1:1<=E'.count false:=by omega
        have HCN:Hid (((E'.count false:Nat):Int)-1=(((E'.set (2*l.length-1-k) true).count false:Nat):Int)):=by show ((E'.count false:Nat):Int)-1=_;omega
        clear hset hcnt;go_wp2
        go_roundw
        case rel=>exact⟨E'.set (2*l.length-1-k) true,true,k+1,by omega,by rw [HCN.o],rfl,by go_num,lu.setCell di _,hEq.store _ _,HS.o⟩
        case measure=>simp [intOf];omega
      .rw [hb] at qD;go_wp2
       go_roundw
       case rel=>exact⟨E',more',k+1,by omega,rfl,rfl,by go_num,lu,hEq,xQ HP.o (fun hkl=>absurd hkl (by omega))⟩
       case measure=>simp [intOf];omega
    .have hke:k=2*l.length:=by omega
     have hle:=HP.o.le;have hlm:=HP.o.lt;have HLM:=bK hlm;clear hlm;go_wp2
     go_roundw
     case rel=>exact⟨E',more',rfl,rfl,lu,hEq,HEl.o,HP.o.sound,fun hm=>by rw [<-hke];exact HP.o.quiet hm⟩
     case measure=>
      have:=HLM.o;cases more'
      .simp [intOf,Pf];omega
      .have:=this rfl;simp [intOf,Pf];omega
theorem JM (ve vr vc:V_) (p:oC) (w:W_) (hE:vI w ve p.ents) (hR:qJ w vr p.rules) (hC:Code w vc p.code)
  (hbad:¬((1<=p.ents.length/\p.ents.length<=4)/\(1<=p.rules.length/\p.rules.length<=16)/\(1<=p.code.length/\p.code.length<=50000))) :
  C_ 32 #[.agg #[ve,vr,vc]] w (zf (iy p) w):=by
 obtain⟨ae,ce,rfl,he1,he2,-⟩:=hE.read;obtain⟨ar,cr,rfl,hr1,hr2,-⟩:=hR.read;obtain⟨ac,cc,rfl,hc1,hc2,-⟩:=hC.read;clear hE hR hC;have fin:B_ w (w.alloc (c_ #[.slice ae p.ents.length ce,.slice ar p.rules.length cr,.slice ac p.code.length cc] 43)):=mi _;have FIN:=bK fin;clear fin;have HBAD:=bK hbad;clear hbad;by_cases hm1:p.ents.length<1
 .go_enter Tryz.func32,Tryz.ntmps32;go_wp2;go_ret;exact mQ (dW (fun h=>by have:=h.1.1;omega)) FIN.o
 by_cases hm4:4<p.ents.length
 .go_enter Tryz.func32,Tryz.ntmps32;go_wp2;go_ret;exact mQ (dW (fun h=>by have:=h.1.1;omega)) FIN.o
 by_cases hk1:p.rules.length<1
 .go_enter Tryz.func32,Tryz.ntmps32;go_wp2;go_ret;exact mQ (dW (fun h=>by have:=h.2.1.1;omega)) FIN.o
 by_cases hk4:16<p.rules.length
 .go_enter Tryz.func32,Tryz.ntmps32;go_wp2;go_ret;exact mQ (dW (fun h=>by have:=h.2.1.1;omega)) FIN.o
 by_cases hn1:p.code.length<1
 .go_enter Tryz.func32,Tryz.ntmps32;go_wp2;go_ret;exact mQ (dW (fun h=>by have:=h.2.2.1.1;omega)) FIN.o
 by_cases hn4:50000<p.code.length
 .go_enter Tryz.func32,Tryz.ntmps32;go_wp2;go_ret;exact mQ (dW (fun h=>by have:=h.2.2.1.1;omega)) FIN.o
 .exact absurd (HBAD.o) (by omega)
theorem GQ (ve vr vc:V_) (p:oC) (w:W_) (hE:vI w ve p.ents) (hR:qJ w vr p.rules) (hC:Code w vc p.code)
  (hm1:1<=p.ents.length) (hm4:p.ents.length<=4) (hk1:1<=p.rules.length) (hk4:p.rules.length<=16) (hn1:1<=p.code.length) (hn4:p.code.length<=50000) :
  C_ 32 #[.agg #[ve,vr,vc]] w (zf (iy p) w):=by
 obtain⟨ae,ce,rfl,he1,he2,rP⟩:=hE.read;obtain⟨ar,cr,rfl,hr1,hr2,pO⟩:=hR.read;obtain⟨ac,cc,rfl,hc1,hc2,mK⟩:=hC.read;have HC:=bK hC;clear hE hR hC;have d1:decide ((p.ents.length:Int)<1)=false:=by simp;omega
 have d2:decide (4<(p.ents.length:Int))=false:=by simp;omega
 have d3:decide ((p.rules.length:Int)<1)=false:=by simp;omega
 have d4:decide (16<(p.rules.length:Int))=false:=by simp;omega
 have d5:decide ((p.code.length:Int)<1)=false:=by simp;omega
 have d6:decide (50000<(p.code.length:Int))=false:=by simp;omega
 go_enter Tryz.func32,Tryz.ntmps32;go_wp2;have lX:B_ w (w.alloc (c_ #[.slice ae p.ents.length ce,.slice ar p.rules.length cr,.slice ac p.code.length cc] 43)):=mi _;have YO:(w.alloc (c_ #[.slice ae p.ents.length ce,.slice ar p.rules.length cr,.slice ac p.code.length cc] 43)).heap.size=w.heap.size+1:=by simp
 have c0:(w.alloc (c_ #[.slice ae p.ents.length ce,.slice ar p.rules.length cr,.slice ac p.code.length cc] 43)).cell? (a_ w.heap.size 0)=some (.slice ae p.ents.length ce):=by simp
 have c1:(w.alloc (c_ #[.slice ae p.ents.length ce,.slice ar p.rules.length cr,.slice ac p.code.length cc] 43)).cell? (a_ w.heap.size 1)=some (.slice ar p.rules.length cr):=by simp
 have c2:(w.alloc (c_ #[.slice ae p.ents.length ce,.slice ar p.rules.length cr,.slice ac p.code.length cc] 43)).cell? (a_ w.heap.size 2)=some (.slice ac p.code.length cc):=by simp
 generalize w.alloc (c_ #[.slice ae p.ents.length ce,.slice ar p.rules.length cr,.slice ac p.code.length cc] 43)=W0 at *;have HS:=bK YO;clear YO
 go_loop [5] (fun i=>∃k:Nat,k<=p.ents.length/\i=I_ k/\∀j,j<k->0<=Pu.aU p.ents j/\Pu.aU p.ents j<p.code.length) (fun i=>p.ents.length-(intOf i).toNat)
 case atStart=>exact⟨0,zl_ _,rfl,fun j hj=>by omega⟩
 case round=>
  obtain⟨k,hk,rfl,hall⟩:=hrel;have HA:=bK hall;clear hall;by_cases hlt:k<p.ents.length
  .obtain⟨b,off,rfl,hb,qD⟩:=rP k hlt;have g0:=(lX.cell (p:=(a_ b (off+k))) hb).trans qD;clear rP pO mK qD;by_cases hx0:Pu.aU p.ents k<0
   .have hd:decide (Pu.aU p.ents k<0)=true:=by simpa using hx0
    go_wp2;go_ret;exact mQ (dW (fun h=>by have:=h.1.2 k hlt;omega)) lX
   by_cases hx1:Pu.aU p.ents k<p.code.length
   all_goals
    have hd:decide (Pu.aU p.ents k<0)=false:=by simpa using hx0
    go_wp2
   .go_round
    case rel=>exact⟨k+1,by omega,by go_num,ry HA.o (by omega)⟩
    case measure=>simp [intOf];omega
   .go_ret
    exact mQ (dW (fun h=>by have:=h.1.2 k hlt;omega)) lX
  .have hkl:k=p.ents.length:=by omega
   subst hkl;have HEO:Hid (Dg p.ents p.code.length):=⟨⟨hm1,hm4⟩,HA.o⟩;clear HA rP hlt hk
   go_wp2_with fail
   go_loopw [6] (fun i wr=>∃k:Nat,k<=p.rules.length/\i=I_ k/\Below (w.heap.size+1) W0 wr/\∀j,j<k->tJ p.ents.length (Pu.rg p.rules j)) (fun i _=>p.rules.length-(intOf i).toNat)
   case atStart=>exact⟨0,zl_ _,rfl,Br_ _ _,fun j hj=>by omega⟩
   case round=>
    obtain⟨k,hk,rfl,hbel,hall⟩:=hrel;have HA:=bK hall;clear hall;have aW:=(hbel.cell (p:=(a_ w.heap.size 0)) (by simp)).trans c0;have q1:=(hbel.cell (p:=(a_ w.heap.size 1)) (by simp)).trans c1;have q2:=(hbel.cell (p:=(a_ w.heap.size 2)) (by simp)).trans c2;by_cases hlt:k<p.rules.length
    .obtain⟨b,off,rfl,hb,e0,e1,e2⟩:=pO k hlt;have g0:=(hbel.cell (p:=(a_ b (off+k*3))) (by simp;omega)).trans ((lX.cell (p:=(a_ b (off+k*3))) hb).trans e0);have g1:=(hbel.cell (p:=(a_ b (off+k*3+1))) (by simp;omega)).trans ((lX.cell (p:=(a_ b (off+k*3+1))) hb).trans e1);have g2:=(hbel.cell (p:=(a_ b (off+k*3+2))) (by simp;omega)).trans ((lX.cell (p:=(a_ b (off+k*3+2))) hb).trans e2);clear pO mK e0 e1 e2
     go_wp2_with fail
     refine (GV (Pu.rg p.rules k) p.ents.length _ hm1 hm4).mono ?_
     rintro e w1 ⟨bb,rfl,hbb,hb1⟩;have iE:Below (w.heap.size+1) W0 w1:=hbel.trans (hb1.mono (by have:=hbel.size;rw [HS.o] at this;exact this));clear g0 g1 g2 hb1 aW q1 q2;cases bb
     .go_wp2;go_ret;exact mQ (dW (fun h=>Bool.noConfusion (hbb.2 (h.2.1.2 k hlt)))) (lX.trans (iE.mono (by omega)))
     .have HB:=bK (hbb.1 rfl);clear hbb;go_wp2
      go_roundw
      case rel=>exact⟨k+1,by omega,by go_num,iE,ry HA.o HB.o⟩
      case measure=>simp [intOf];omega
    .have hkl:k=p.rules.length:=by omega
     subst hkl;have HRO:Hid (sO p.rules p.ents.length):=⟨⟨hk1,hk4⟩,HA.o⟩;clear HA pO hlt hk aW q2
     go_wp2_with fail
     go_loopw [8] (fun i wr=>∃k:Nat,k<=p.code.length/\i=I_ k/\Below (w.heap.size+1) W0 wr/\∀j,j<k->rz p.rules.length p.code.length (Pu.aO p.code j)) (fun i _=>p.code.length-(intOf i).toNat)
     case atStart=>exact⟨0,zl_ _,rfl,hbel,fun j hj=>by omega⟩
     case round=>
      clear hbel q1;obtain⟨k,hk,rfl,hbel,hall⟩:=hrel;have HA:=bK hall;clear hall;have q1:=(hbel.cell (p:=(a_ w.heap.size 1)) (by simp)).trans c1;have q2:=(hbel.cell (p:=(a_ w.heap.size 2)) (by simp)).trans c2;by_cases hlt:k<p.code.length
      .obtain⟨b,off,rfl,hb,e0,e1,e2,e3⟩:=mK k hlt;have g0:=(hbel.cell (p:=(a_ b (off+k*4))) (by simp;omega)).trans ((lX.cell (p:=(a_ b (off+k*4))) hb).trans e0);have g1:=(hbel.cell (p:=(a_ b (off+k*4+1))) (by simp;omega)).trans ((lX.cell (p:=(a_ b (off+k*4+1))) hb).trans e1);have g2:=(hbel.cell (p:=(a_ b (off+k*4+2))) (by simp;omega)).trans ((lX.cell (p:=(a_ b (off+k*4+2))) hb).trans e2);have g3:=(hbel.cell (p:=(a_ b (off+k*4+3))) (by simp;omega)).trans ((lX.cell (p:=(a_ b (off+k*4+3))) hb).trans e3);clear mK e0 e1 e2 e3
       go_wp2_with fail
       go_region_with (go_at_call 68;refine (JO (Pu.aO p.code k) p.rules.length p.code.length _ hk4 hn4).mono ?_;rintro e w1 ⟨bb,rfl,hbb,hb1⟩)
       all_goals
        have iE:Below (w.heap.size+1) W0 w1:=hbel.drew.trans (hb1.mono (by have:=hbel.size;rw [HS.o] at this;simpa using this));clear g0 g1 g2 g3 hb1 q1 q2;cases bb
        .go_wp2;go_ret;exact mQ (dW (fun h=>Bool.noConfusion (hbb.2 (h.2.2.1.2.1 k hlt)))) (lX.trans (iE.mono (by omega)))
        .have HB:=bK (hbb.1 rfl);clear hbb;go_wp2
         go_roundw
         case rel=>exact⟨k+1,by omega,by go_num,iE,ry HA.o HB.o⟩
         case measure=>simp [intOf];omega
      .have hkl:k=p.code.length:=by omega
       subst hkl;obtain⟨b,off,rfl,hb,e0,-⟩:=mK (p.code.length-1) (by omega);have g0:=(hbel.cell (p:=⟨b,off+(p.code.length-1)*4,none⟩) (by simp;omega)).trans ((lX.cell (p:=⟨b,off+(p.code.length-1)*4,none⟩) hb).trans e0);clear mK e0 q1;generalize hx:(Pu.aO p.code (p.code.length-1)).op=x at *;have HX:=bK hx;clear hx;by_cases e45:x=4\/x=5
       .have HCO:Hid (vU p.code p.rules.length):=⟨⟨hn1,hn4⟩,HA.o,by rw [HX.o];exact e45⟩
        have hz:W0.heap.size<=wr.heap.size:=hbel.size;have hCw:Hid (Code wr (.slice (some (a_ b off)) p.code.length cc) p.code):=HC.o.below (lX.trans (hbel.mono (by omega)));have hbw:B_ w wr:=lX.trans (hbel.mono (by omega));by_cases e4:x=4
        focus have e4':(x != 4)=false:=by simp [e4]
        rotate_left
        focus
         have e4':(x != 4)=true:=by simpa using e4
         have e5':(x != 5)=false:=by simp;omega
        all_goals
         clear e45 e4
         go_wp2_with fail
         refine (VD _ p.code _ hCw.o HCO.o.tight (by omega)).mono ?_
         rintro e w4 ⟨b4,rfl,hb4,hB4⟩;have zz:=iT hbw hB4;go_wp2;go_ret;exact mQ ⟨fun h=>⟨HEO.o,HRO.o,HCO.o,hb4.1 h⟩,fun h=>hb4.2 h.2.2.2⟩ zz
       .have e4':(x != 4)=true:=by simp;omega
        have e5':(x != 5)=true:=by simp;omega
        have HE:=bK e45;clear e45;go_wp2;go_ret;exact mQ (dW (fun h=>HE.o (by rw [<-HX.o];exact h.2.2.1.2.2))) (lX.trans (hbel.mono (by omega)))
theorem zQ (ve vr vc:V_) (p:oC) (w:W_) (hE:vI w ve p.ents) (hR:qJ w vr p.rules) (hC:Code w vc p.code) :
  C_ 32 #[.agg #[ve,vr,vc]] w (zf (iy p) w):=by
 by_cases h:(1<=p.ents.length/\p.ents.length<=4)/\(1<=p.rules.length/\p.rules.length<=16)/\(1<=p.code.length/\p.code.length<=50000)
 .exact GQ ve vr vc p w hE hR hC h.1.1 h.1.2 h.2.1.1 h.2.1.2 h.2.2.1 h.2.2.2
 .exact JM ve vr vc p w hE hR hC h
theorem xu (s:Y_) (i:Int) (w:W_) (h0:0<=i) (h1:i+1<s.size) (hs:s.size<=9223372036854775807) :
  C_ 66 #[.string s,I_ i] w fun e w'=>e=.returned (I_ (pr s i.toNat))/\∃n,w'=w.drewN n:=by
 obtain⟨a,rfl⟩:=Int.eq_ofNat_of_zero_le h0;rw [tn_];have x0:=fun w=>dU s (a:Int) a rfl (by omega) w
 have x1:=fun w=>dU s ((a:Int)+1) (a+1) (by omega) (by omega) w
 have b0:=iC s a;have b1:=iC s (a+1);have HP:Hid (pr s a=bt s a+256*bt s (a+1)):=by show pr s a=_;unfold pr;omega
 rw [HP.o];generalize bt s a=p0 at *;generalize bt s (a+1)=p1 at *;have j1:(a:Int)<s.size:=by omega
 have wr1:=kg a;have wr2:=xF (256*p1);have wr3:=xF (p0+256*p1);go_enter Tryz.func66,Tryz.ntmps66
 go_wp2_with fail
 go_quiet (fail);go_wp2;go_ret
 exact⟨rfl,_,rfl⟩
theorem aaG (s:Y_) (h:6<=s.size):((s.extract 0 2).toList == [87,82])=decide (bt s 0=87/\bt s 1=82):=by
 have e:(s.extract 0 2).toList=s.data.toList.take 2:=by rw [ByteArray.toList_eq];simp
 rw [e];have hl:6<=s.data.toList.length:=by simpa using h
 unfold bt
 match hd:s.data.toList,hl with
 | a::b::r,_=>rw [Bool.eq_iff_iff];simp [<-UInt8.toNat_inj];omega
theorem Cs (s:Y_) (w:W_) (hs:s.size<=9223372036854775807) (hF:¬(6<=s.size/\bt s 0=87/\bt s 1=82)) :
  C_ 31 #[.string s] w (I7 2 s w):=by
 have HN:Hid (¬(Form s/\iy (eX s))):=fun h=>hF ⟨h.1.1,h.1.2.1,h.1.2.2.1⟩
 have FIN:=bK ((Br_ w.heap.size w).alloc di (c_ #[n_,n_,n_] 43));by_cases h6:s.size<6
 .have hd:decide ((s.size:Int)<6)=true:=by simp;omega
  clear hF;go_enter Tryz.func31,Tryz.ntmps31;go_wp2;exact br_ (v:=.tuple #[.agg #[n_,n_,n_],I_ 2]) (by simp [results,Tryz.results31,go_sem]) rfl (.inr ⟨HN.o,rfl,FIN.o⟩)
 have hd:decide ((s.size:Int)<6)=false:=by simp;omega
 have hw:((s.extract 0 2).toList == [87,82])=false:=by rw [aaG s (by omega)];exact dn_ (fun h=>hF ⟨by omega,h.1,h.2⟩)
 clear hF;go_enter Tryz.func31,Tryz.ntmps31;go_wp2;exact br_ (v:=.tuple #[.agg #[n_,n_,n_],I_ 2]) (by simp [results,Tryz.results31,go_sem]) rfl (.inr ⟨HN.o,rfl,FIN.o⟩)
structure vL (w W:W_) (ve vr vc:V_):Prop where
 o:dh W w.heap.size 43 [n_,n_,n_]
 own:dh W (w.heap.size+1) 43 [ve,vr,vc]
 uo:B_ w W
 sz:w.heap.size+2<=W.heap.size
theorem vL.drewN {w W:W_} {ve vr vc:V_} (h:vL w W ve vr vc) (n:Nat):vL w (W.drewN n) ve vr vc:=⟨h.o,h.own,bd_ h.uo n,by have:=h.sz;simpa using this⟩
theorem vL.alloc {w W:W_} {ve vr vc:V_} (h:vL w W ve vr vc) (o:Obj):vL w (W.alloc o) ve vr vc:=⟨dx h.o o,dx h.own o,h.uo.alloc (by have:=h.sz;omega) o,by have:=h.sz;simp;omega⟩
theorem vL.step {w W W':W_} {ve vr vc:V_} {row:Option Nat} (h:vL w W ve vr vc) (hg:W.grownBy W' row) (hr:∀k,row=some k->w.heap.size+2<=k):vL w W' ve vr vc:=by have h1:=hg.size;have h2:=h.sz;refine⟨bQ h.o hg (fun e=>by have:=hr _ e.symm;omega),bQ h.own hg (fun e=>by have:=hr _ e.symm;omega),h.uo.grown hg (by omega) (fun k hk=>by have:=hr k hk;omega),by omega⟩
theorem vL.ahD {w W:W_} {ve vr vc:V_} (h:vL w W ve vr vc) (u:V_):vL w (W.setCell (a_ (w.heap.size+1) 0) u) u vr vc:=
 ⟨dB h.o (by omega) _ _,by have:=cO h.own 0 u;simpa using this,h.uo.setCell (by show w.heap.size<=w.heap.size+1;omega) _,by have:=h.sz;rw [show (W.setCell (a_ (w.heap.size+1) 0) u).heap.size=W.heap.size from by simp [World.setCell]];exact this⟩
theorem vL.akM {w W:W_} {ve vr vc:V_} (h:vL w W ve vr vc) (u:V_):vL w (W.setCell (a_ (w.heap.size+1) 1) u) ve u vc:=
 ⟨dB h.o (by omega) _ _,by have:=cO h.own 1 u;simpa using this,h.uo.setCell (by show w.heap.size<=w.heap.size+1;omega) _,by have:=h.sz;rw [show (W.setCell (a_ (w.heap.size+1) 1) u).heap.size=W.heap.size from by simp [World.setCell]];exact this⟩
theorem vL.ahC {w W:W_} {ve vr vc:V_} (h:vL w W ve vr vc) (u:V_):vL w (W.setCell (a_ (w.heap.size+1) 2) u) ve vr u:=
 ⟨dB h.o (by omega) _ _,by have:=cO h.own 2 u;simpa using this,h.uo.setCell (by show w.heap.size<=w.heap.size+1;omega) _,by have:=h.sz;rw [show (W.setCell (a_ (w.heap.size+1) 2) u).heap.size=W.heap.size from by simp [World.setCell]];exact this⟩
theorem Fg (s:Y_) (w:W_) (hs:s.size<=9223372036854775807) (h6:6<=s.size) (h87:bt s 0=87) (h82:bt s 1=82) :
  C_ 31 #[.string s] w (I7 2 s w):=by
 obtain⟨i3,hi3,h30,h31,h32⟩:=ip_ Tryz.inff3;obtain⟨ir,hir,hr0,hr1,hr2⟩:=ip_ Tryz.info59;obtain⟨ic,hic,hc0,hc1,hc2⟩:=ip_ Tryz.info61;have hd:decide ((s.size:Int)<6)=false:=by simp;omega
 have hw:((s.extract 0 2).toList == [87,82])=true:=by rw [aaG s h6];exact dt_ ⟨h87,h82⟩
 have x2:=fun w=>dU s 2 2 rfl (by omega) w
 have x3:=fun w=>dU s 3 3 rfl (by omega) w
 have b2:=iC s 2;have b3:=iC s 3;have b4:=iC s 4;have b5:=iC s 5
 have HF:Hid (Form s↔s.size=6+2*nE s+3*nR s+5*nC s):=⟨fun h=>h.2.2.2,fun h=>⟨h6,h87,h82,h⟩⟩
 have e2:bt s 2=((nE s:Nat):Int):=by unfold nE;omega
 have e3:bt s 3=((nR s:Nat):Int):=by unfold nR;omega
 have e4:pr s 4=((nC s:Nat):Int):=by have:pr s 4=bt s 4+bt s 5*256:=rfl;unfold nC;omega
 have hn:nC s<=65535:=by have:pr s 4=bt s 4+bt s 5*256:=rfl;omega
 rw [e2] at x2 b2;rw [e3] at x3 b3;have E4:=bK e4;clear e2 e3 e4 h87 h82 b4 b5;have k2:(2:Int)<s.size:=by omega
 have k3:(3:Int)<s.size:=by omega
 have HB0:=bK ((Br_ w.heap.size w).alloc di (c_ #[n_,n_,n_] 43));have HBK:Hid (dh (w.alloc (c_ #[n_,n_,n_] 43)) w.heap.size 43 [n_,n_,n_]):=hn_ _ _;go_enter Tryz.func31,Tryz.ntmps31
 go_wp2_with fail
 refine (xu s 4 _ (by omega) (by omega) hs).mono ?_
 rintro e w1 ⟨rfl,nq,rfl⟩;rw [show ((4:Int).toNat)=4 from rfl,E4.o];have bX:B_ w ((w.alloc (c_ #[n_,n_,n_] 43)).drewN nq):=bd_ HB0.o nq;have kX:dh ((w.alloc (c_ #[n_,n_,n_] 43)).drewN nq) w.heap.size 43 [n_,n_,n_]:=HBK.o;have sX:((w.alloc (c_ #[n_,n_,n_] 43)).drewN nq).heap.size=w.heap.size+1:=by simp
 generalize (w.alloc (c_ #[n_,n_,n_] 43)).drewN nq=X at *;clear x2 x3 HB0 HBK k2 k3 hd hw;by_cases hsz:s.size=6+2*nE s+3*nR s+5*nC s
 .have hb:((s.size:Int) != 6+2*(nE s:Int)+3*(nR s:Int)+5*(nC s:Int))=false:=by simp;omega
  have hl1:s.size<=6+2*nE s+3*nR s+5*nC s:=by omega
  have hl2:6+2*nE s+3*nR s+5*nC s<=s.size:=by omega
  have hszB:s.size<=400000:=by omega
  have Xn:=bK hsz;clear hsz;have T0:Hid (vL w (X.alloc (c_ #[n_,n_,n_] 43)) n_ n_ n_):=by refine⟨dx kX _,?_,bX.alloc (by omega) _,by simp;omega⟩;have:=hn_ X (c_ #[n_,n_,n_] 43);rw [sX] at this;exact this
  have hX:X.heap.size=w.heap.size+1:=sX;clear kX bX
  go_wp2_with fail
  generalize X.alloc (c_ #[n_,n_,n_] 43)=X1 at *;clear hX sX
  go_loopw [8,9] (fun av iv wr=>∃(k:Nat) (v:V_),k<=nE s/\iv=I_ k/\av=I_ ((6+2*k:Nat):Int)/\vL w wr v n_ n_/\wr.ownsRow (w.heap.size+2) 3 1 v k (bY (jX s 6 k))) (fun _ iv _=>nE s-(intOf iv).toNat)
  case atStart=>exact⟨0,_,zl_ _,rfl,rfl,T0.o,World.ownsRow_nil _ _ _ _⟩
  case round=>
   clear T0;obtain⟨k,v,hk,rfl,rfl,ht,fH⟩:=hrel;by_cases hlt:k<nE s
   .generalize ha:6+2*k=a at *;have hst:=Ib s 6 k;rw [ha] at hst;have HST:Hid (bY (jX s 6 (k+1))=bY (jX s 6 k)++[I_ (pr s a)]):=hst;have haB:a+2<=s.size:=by omega
    have HA:=bK ha;clear ha hst;have c0:=bP 0 ht.own rfl;have f0:=bL ht.own 0;have HT:=bK ht;have HO:=bK fH;have hsz:=ht.sz;clear ht fH
    go_wp2_with fail
    have toN:(a:Int).toNat=a:=tn_ a;have cAl:∀n o,((wr.drewN n).alloc o).cell? (a_ (w.heap.size+1) 0)=some v:=fun n o=>bM (j:=0) (dx (wL HT.o.own n) o) rfl
    refine wp_region_noPanic ?_
    refine wp_region_any (by kernel_rfl) ?_
    try (change wpAny _ _ _ _ _ _ _ (World.drew _))
    refine kR 0 (p_ (w.heap.size+1)) ?_
    refine kR 2 (.string s) ?_
    refine kR 3 (I_ a) ?_
    refine wpAny_ready (rs:=[1,4]) (by kernel_rfl) (by simp) ?_
    refine AllReady.cons rfl (fun K hK=>?_) (AllReady.cons rfl (fun K hK=>?_) AllReady.nil)
    focus
     go_simp
     refine hK _ _ ?_
     clear hK K;refine uI 4 (fun K hK=>?_)
    rotate_left
    rotate_left
    all_goals
     go_simp
     refine (xu s (a:Int) _ (by omega) (by omega) hs).mono ?_
     rintro e w' ⟨rfl,nd,rfl⟩;simp only [toN];refine hK _ _ ?_
     clear hK K
    .refine uI 5 (fun K hK=>?_)
     go_simp
     refine hK _ _ ?_
     clear hK K;refine uI 6 (fun K hK=>?_);refine sa_ _ (by rfl) _ _ _ (by rfl) (w.heap.size+2) 3 i3 _ 1 8 Tryz.underlying31 hi3 h30 h31 h32 rfl (by omega) v k (bY (jX s 6 k)) (by rfl) (oa_ (iJ HO.o _) _) (a_ wr.heap.size 0) 1 1 [I_ (pr s a)] (by rfl) (by rfl) (World.news_of_block (cs:=#[I_ (pr s a)]) (t:=3) (fr:=(0,0)) (hn_ _ _)) (by simp [Value.oneCell']) (by omega) (by unfold maxLen;omega) (by omega) (by simp;omega) (wr.heap.size+1) (by simp) ?_
     intro g2 fE w2 dw bS jH kV;have t2:=vL.step (vL.alloc (vL.drewN HT.o _) _) bS (fun k' h=>(ol_ HO.o k' h).1);have c2:=bP 0 t2.own rfl;have f2:=bL t2.own 0;refine hK _ _ ?_
     clear hK K;refine kR 7 (p_ (w.heap.size+1)) ?_
     refine uI 8 (fun K hK=>?_)
     go_simp
     refine hK _ _ ?_
     clear hK K;refine wpAny_done (by kernel_rfl) ?_ _;refine NoPanic.normal ?_
     have t3:=t2.ahD (s_ g2 (k+1) fE);have og:=ob_ dw (a:=(a_ (w.heap.size+1) 0)) (ls_ _) (s_ g2 (k+1) fE);rw [<-HST.o] at og;clear dw bS jH kV t2 c2 f2 c0 f0;go_wp2
     go_roundw
     case rel=>exact⟨k+1,_,by omega,by go_num,by have:=HA.o;go_num,t3,og⟩
     case measure=>simp [intOf];omega
    .refine wpAny_ready (rs:=[1,5]) (by kernel_rfl) (by simp) ?_
     refine AllReady.cons rfl (fun K hK=>?_) (AllReady.cons rfl (fun K hK=>?_) AllReady.nil)
     focus
      go_simp
      refine hK _ _ ?_
      clear hK K;refine uI 5 (fun K hK=>?_)
     rotate_left
     focus
      go_simp
      refine hK _ _ ?_
      clear hK K;refine uI 1 (fun K hK=>?_)
     all_goals
      go_simp
      refine hK _ _ ?_
      clear hK K;refine uI 6 (fun K hK=>?_);refine sa_ _ (by rfl) _ _ _ (by rfl) (w.heap.size+2) 3 i3 _ 1 8 Tryz.underlying31 hi3 h30 h31 h32 rfl (by omega) v k (bY (jX s 6 k)) (by rfl) (oa_ (iJ HO.o _) _) (a_ wr.heap.size 0) 1 1 [I_ (pr s a)] (by rfl) (by rfl) (World.news_of_block (cs:=#[I_ (pr s a)]) (t:=3) (fr:=(0,0)) (hn_ _ _)) (by simp [Value.oneCell']) (by omega) (by unfold maxLen;omega) (by omega) (by simp;omega) (wr.heap.size+1) (by simp) ?_
      intro g2 fE w2 dw bS jH kV;have t2:=vL.step (vL.alloc (vL.drewN HT.o _) _) bS (fun k' h=>(ol_ HO.o k' h).1);have c2:=bP 0 t2.own rfl;have f2:=bL t2.own 0;refine hK _ _ ?_
      clear hK K;refine kR 7 (p_ (w.heap.size+1)) ?_
      refine uI 8 (fun K hK=>?_)
      go_simp
      refine hK _ _ ?_
      clear hK K;refine wpAny_done (by kernel_rfl) ?_ _;refine NoPanic.normal ?_
      have t3:=t2.ahD (s_ g2 (k+1) fE);have og:=ob_ dw (a:=(a_ (w.heap.size+1) 0)) (ls_ _) (s_ g2 (k+1) fE);rw [<-HST.o] at og;clear dw bS jH kV t2 c2 f2 c0 f0;go_wp2
      go_roundw
      case rel=>exact⟨k+1,_,by omega,by go_num,by have:=HA.o;go_num,t3,og⟩
      case measure=>simp [intOf];omega
   .have hke:k=nE s:=by omega
    subst hke;have HT1:=bK ht;have HE1:=bK fH;clear ht fH hlt hk;generalize v=ve at *
    go_wp2_with fail
    go_loopw [8,10] (fun av iv wr=>∃(k:Nat) (v:V_),k<=nR s/\iv=I_ k/\av=I_ ((6+2*nE s+3*k:Nat):Int)/\vL w wr ve v n_/\wr.ownsRow (w.heap.size+2) 3 1 ve (nE s) (bY (jX s 6 (nE s)))/\wr.ownsRow (w.heap.size+2) 59 3 v k (eG (dE s (6+2*nE s) k))) (fun _ iv _=>nR s-(intOf iv).toNat)
    case atStart=>exact⟨0,_,zl_ _,rfl,rfl,HT1.o,HE1.o,World.ownsRow_nil _ _ _ _⟩
    case round=>
     clear HT1 HE1;obtain⟨k,v,hk,rfl,rfl,ht,hE,fH⟩:=hrel;by_cases hlt:k<nR s
     .generalize ha:6+2*nE s+3*k=a at *;have hst:=Fq s (6+2*nE s) k;rw [ha] at hst;have Mk:=hst;clear hst;have HST:=bK Mk;clear Mk;have haB:a+3<=s.size:=by omega
      have HA:=bK ha;clear ha;have x0:=fun w=>dU s ((a:Int)) (a) (by omega) (by omega) w
      have b6:=iC s (a);have x1:=fun w=>dU s ((a:Int)+1) (a+1) (by omega) (by omega) w
      have b7:=iC s (a+1);have x2:=fun w=>dU s ((a:Int)+2) (a+2) (by omega) (by omega) w
      have b8:=iC s (a+2);generalize bt s (a)=p0 at *;generalize bt s (a+1)=p1 at *;generalize bt s (a+2)=p2 at *;have wp0:=xF p0;have wp1:=xF p1;have wp2:=xF p2;have j0:=jg a;have aW:(a:Int)<s.size:=by omega
      have j1:(0:Int)<=a+1:=by omega
      have q1:(a:Int)+1<(s.size:Int):=by omega
      have wr1:=kg a;have j2:(0:Int)<=a+2:=by omega
      have q2:(a:Int)+2<(s.size:Int):=by omega
      have wr2:=xF ((a:Int)+2);have c0:=bP 1 ht.own rfl;have HT:=bK ht;have HO:=bK fH;have HE:=bK hE;have hsz:=ht.sz;have cAl:∀n o,((wr.drewN n).alloc o).cell? (a_ (w.heap.size+1) 1)=some v:=fun n o=>bM (j:=1) (dx (wL HT.o.own n) o) rfl
      have cAm:∀o,((wr.alloc o).drew).cell? (a_ (w.heap.size+1) 1)=some v:=fun o=>bM (j:=1) (dx HT.o.own o) rfl
      clear ht fH hE
      go_wp2_with fail
      refine wp_region_noPanic ?_
      refine wp_region_any (by kernel_rfl) ?_
      try (change wpAny _ _ _ _ _ _ _ (World.drew _))
      refine kR 0 (.pointer (some (a_ (w.heap.size+1) 1))) ?_
      refine kR 2 (.string s) ?_
      refine kR 3 (I_ a) ?_
      refine kR 4 (.int .u8 p0) ?_
      refine kR 5 (I_ p0) ?_
      refine kR 6 (.string s) ?_
      refine kR 7 (I_ a) ?_
      refine kR 8 (I_ ((a:Int)+1)) ?_
      refine kR 9 (.int .u8 p1) ?_
      refine kR 10 (I_ p1) ?_
      refine kR 11 (.string s) ?_
      refine kR 12 (I_ a) ?_
      refine kR 13 (I_ ((a:Int)+2)) ?_
      refine kR 14 (.int .u8 p2) ?_
      refine kR 15 (I_ p2) ?_
      refine kR 16 (.agg #[I_ p0,I_ p1,I_ p2]) ?_
      refine wpAny_ready (rs:=[1,17]) (by kernel_rfl) (by simp) ?_
      refine AllReady.cons rfl (fun K hK=>?_) (AllReady.cons rfl (fun K hK=>?_) AllReady.nil)
      focus
       go_simp
       refine hK _ _ ?_
       clear hK K;refine uI 17 (fun K hK=>?_)
      rotate_left
      focus
       go_simp
       refine hK _ _ ?_
       clear hK K;refine uI 1 (fun K hK=>?_)
      all_goals
       go_simp
       refine hK _ _ ?_
       clear hK K;refine uI 18 (fun K hK=>?_);refine sa_ _ (by rfl) _ _ _ (by rfl) (w.heap.size+2) 59 ir _ 3 24 Tryz.underlying40 hir hr0 hr1 hr2 rfl (by omega) v k (eG (dE s (6+2*nE s) k)) (by rfl) (oa_ (iJ HO.o 1) _) (a_ wr.heap.size 0) 1 1 [I_ p0,I_ p1,I_ p2] (by rfl) (by rfl) (World.news_of_block (cs:=#[I_ p0,I_ p1,I_ p2]) (t:=59) (fr:=(0,0)) (hn_ _ _)) (by simp [Value.oneCell']) (by omega) (by unfold maxLen;omega) (by omega) (by simp;omega) (wr.heap.size+1) (by simp) ?_
       intro g2 fE w2 dw bS jH kV;have t2:=vL.step (vL.alloc (vL.drewN HT.o _) _) bS (fun k' h=>(ol_ HO.o k' h).1);have e2:=fC (oa_ (iJ HE.o _) _) (oa_ (iJ HO.o _) _) (by decide) bS;have c2:=bP 1 t2.own rfl;have f2:=bL t2.own 1;refine hK _ _ ?_
       clear hK K;refine kR 19 (.pointer (some (a_ (w.heap.size+1) 1))) ?_
       refine uI 20 (fun K hK=>?_)
       go_simp
       refine hK _ _ ?_
       clear hK K;refine wpAny_done (by kernel_rfl) ?_ _;refine NoPanic.normal ?_
       have t3:=t2.akM (s_ g2 (k+1) fE);have og:=ob_ dw (a:=(a_ (w.heap.size+1) 1)) (ls_ _) (s_ g2 (k+1) fE);have e3:=ob_ e2 (a:=(a_ (w.heap.size+1) 1)) (ls_ _) (s_ g2 (k+1) fE);rw [<-HST.o] at og;clear dw bS jH kV t2 c2 f2 c0 e2 x0 x1 x2 cAl cAm;go_wp2
       go_roundw
       case rel=>exact⟨k+1,_,by omega,by go_num,by have:=HA.o;go_num,t3,e3,og⟩
       case measure=>simp [intOf];omega
     .have hke:k=nR s:=by omega
      subst hke;have HT2:=bK ht;have HE2:=bK hE;have HR2:=bK fH;clear ht fH hE hlt hk;generalize v=vr at *
      go_wp2_with fail
      go_loopw [8,11] (fun av iv wr=>∃(k:Nat) (v:V_),k<=nC s/\iv=I_ k/\av=I_ ((6+2*nE s+3*nR s+5*k:Nat):Int)/\vL w wr ve vr v/\wr.ownsRow (w.heap.size+2) 3 1 ve (nE s) (bY (jX s 6 (nE s)))/\wr.ownsRow (w.heap.size+2) 59 3 vr (nR s) (eG (dE s (6+2*nE s) (nR s)))/\wr.ownsRow (w.heap.size+2) 61 4 v k (dC (kM s (6+2*nE s+3*nR s) k))) (fun _ iv _=>nC s-(intOf iv).toNat)
      case atStart=>exact⟨0,_,zl_ _,rfl,rfl,HT2.o,HE2.o,HR2.o,World.ownsRow_nil _ _ _ _⟩
      case round=>
       clear HT2 HE2 HR2;obtain⟨k,v,hk,rfl,rfl,ht,hE,hR,fH⟩:=hrel;by_cases hlt:k<nC s
       .generalize ha:6+2*nE s+3*nR s+5*k=a at *;have hst:=H9 s (6+2*nE s+3*nR s) k;rw [ha] at hst;have Mk:dC (kM s (6+2*nE s+3*nR s) (k+1))=dC (kM s (6+2*nE s+3*nR s) k)++[I_ (bt s a),I_ (bt s (a+1)),I_ (bt s (a+2)),I_ (pr s (a+3))]:=hst;clear hst;have HST:=bK Mk;clear Mk;have haB:a+5<=s.size:=by omega
        have HA:=bK ha;clear ha;have x0:=fun w=>dU s ((a:Int)) (a) (by omega) (by omega) w
        have b6:=iC s (a);have x1:=fun w=>dU s ((a:Int)+1) (a+1) (by omega) (by omega) w
        have b7:=iC s (a+1);have x2:=fun w=>dU s ((a:Int)+2) (a+2) (by omega) (by omega) w
        have b8:=iC s (a+2);generalize bt s (a)=p0 at *;generalize bt s (a+1)=p1 at *;generalize bt s (a+2)=p2 at *;have wp0:=xF p0;have wp1:=xF p1;have wp2:=xF p2;have j0:=jg a;have aW:(a:Int)<s.size:=by omega
        have j1:(0:Int)<=a+1:=by omega
        have q1:(a:Int)+1<(s.size:Int):=by omega
        have wr1:=kg a;have j2:(0:Int)<=a+2:=by omega
        have q2:(a:Int)+2<(s.size:Int):=by omega
        have wr2:=xF ((a:Int)+2);have j3:(0:Int)<=a+3:=by omega
        have q3:(a:Int)+3<(s.size:Int):=by omega
        have wr3:=xF ((a:Int)+3);have c0:=bP 2 ht.own rfl;have HT:=bK ht;have HO:=bK fH;have HE:=bK hE;have HRR:=bK hR;have hsz:=ht.sz;have cAl:∀n o,((wr.drewN n).alloc o).cell? (a_ (w.heap.size+1) 2)=some v:=fun n o=>bM (j:=2) (dx (wL HT.o.own n) o) rfl
        have cAm:∀o,((wr.alloc o).drew).cell? (a_ (w.heap.size+1) 2)=some v:=fun o=>bM (j:=2) (dx HT.o.own o) rfl
        clear ht fH hE hR;have toN:((a:Int)+3).toNat=a+3:=by omega
        go_wp2_with fail
        refine wp_region_noPanic ?_
        refine wp_region_any (by kernel_rfl) ?_
        try (change wpAny _ _ _ _ _ _ _ (World.drew _))
        refine kR 0 (.pointer (some (a_ (w.heap.size+1) 2))) ?_
        refine kR 2 (.string s) ?_
        refine kR 3 (I_ a) ?_
        refine kR 4 (.int .u8 p0) ?_
        refine kR 5 (I_ p0) ?_
        refine kR 6 (.string s) ?_
        refine kR 7 (I_ a) ?_
        refine kR 8 (I_ ((a:Int)+1)) ?_
        refine kR 9 (.int .u8 p1) ?_
        refine kR 10 (I_ p1) ?_
        refine kR 11 (.string s) ?_
        refine kR 12 (I_ a) ?_
        refine kR 13 (I_ ((a:Int)+2)) ?_
        refine kR 14 (.int .u8 p2) ?_
        refine kR 15 (I_ p2) ?_
        refine kR 16 (.string s) ?_
        refine kR 17 (I_ a) ?_
        refine kR 18 (I_ ((a:Int)+3)) ?_
        refine wpAny_ready (rs:=[1,19]) (by kernel_rfl) (by simp) ?_
        refine AllReady.cons rfl (fun K hK=>?_) (AllReady.cons rfl (fun K hK=>?_) AllReady.nil)
        focus
         go_simp
         refine hK _ _ ?_
         clear hK K;refine uI 19 (fun K hK=>?_)
        rotate_left
        rotate_left
        all_goals
         go_simp
         refine (xu s ((a:Int)+3) _ (by omega) (by omega) hs).mono ?_
         rintro e w' ⟨rfl,nd,rfl⟩;simp only [toN];refine hK _ _ ?_
         clear hK K;refine kR 20 (.agg #[I_ p0,I_ p1,I_ p2,I_ (pr s (a+3))]) ?_
        .refine uI 21 (fun K hK=>?_)
         go_simp
         refine hK _ _ ?_
         clear hK K;refine uI 22 (fun K hK=>?_);refine sa_ _ (by rfl) _ _ _ (by rfl) (w.heap.size+2) 61 ic _ 4 32 Tryz.underlying41 hic hc0 hc1 hc2 rfl (by omega) v k (dC (kM s (6+2*nE s+3*nR s) k)) (by rfl) (oa_ (iJ HO.o _) _) (a_ wr.heap.size 0) 1 1 [I_ p0,I_ p1,I_ p2,I_ (pr s (a+3))] (by rfl) (by rfl) (World.news_of_block (cs:=#[I_ p0,I_ p1,I_ p2,I_ (pr s (a+3))]) (t:=61) (fr:=(0,0)) (hn_ _ _)) (by simp [Value.oneCell']) (by omega) (by unfold maxLen;omega) (by omega) (by simp;omega) (wr.heap.size+1) (by simp) ?_
         intro g2 fE w2 dw bS jH kV;have t2:=vL.step (vL.alloc (vL.drewN HT.o _) _) bS (fun k' h=>(ol_ HO.o k' h).1);have e2:=fC (oa_ (iJ HE.o _) _) (oa_ (iJ HO.o _) _) (by decide) bS;have r2:=fC (oa_ (iJ HRR.o _) _) (oa_ (iJ HO.o _) _) (by decide) bS;have c2:=bP 2 t2.own rfl;have f2:=bL t2.own 2;refine hK _ _ ?_
         clear hK K;refine kR 23 (.pointer (some (a_ (w.heap.size+1) 2))) ?_
         refine uI 24 (fun K hK=>?_)
         go_simp
         refine hK _ _ ?_
         clear hK K;refine wpAny_done (by kernel_rfl) ?_ _;refine NoPanic.normal ?_
         have t3:=t2.ahC (s_ g2 (k+1) fE);have og:=ob_ dw (a:=(a_ (w.heap.size+1) 2)) (ls_ _) (s_ g2 (k+1) fE);have e3:=ob_ e2 (a:=(a_ (w.heap.size+1) 2)) (ls_ _) (s_ g2 (k+1) fE);have r3:=ob_ r2 (a:=(a_ (w.heap.size+1) 2)) (ls_ _) (s_ g2 (k+1) fE);rw [<-HST.o] at og;clear dw bS jH kV t2 c2 f2 c0 e2 r2 x0 x1 x2 cAl cAm;go_wp2
         go_roundw
         case rel=>exact⟨k+1,_,by omega,by go_num,by have:=HA.o;go_num,t3,e3,r3,og⟩
         case measure=>simp [intOf];omega
        .refine wpAny_ready (rs:=[1,21]) (by kernel_rfl) (by simp) ?_
         refine AllReady.cons rfl (fun K hK=>?_) (AllReady.cons rfl (fun K hK=>?_) AllReady.nil)
         focus
          go_simp
          refine hK _ _ ?_
          clear hK K;refine uI 21 (fun K hK=>?_)
         rotate_left
         focus
          go_simp
          refine hK _ _ ?_
          clear hK K;refine uI 1 (fun K hK=>?_)
         all_goals
          go_simp
          refine hK _ _ ?_
          clear hK K;refine uI 22 (fun K hK=>?_);refine sa_ _ (by rfl) _ _ _ (by rfl) (w.heap.size+2) 61 ic _ 4 32 Tryz.underlying41 hic hc0 hc1 hc2 rfl (by omega) v k (dC (kM s (6+2*nE s+3*nR s) k)) (by rfl) (oa_ (iJ HO.o _) _) (a_ wr.heap.size 0) 1 1 [I_ p0,I_ p1,I_ p2,I_ (pr s (a+3))] (by rfl) (by rfl) (World.news_of_block (cs:=#[I_ p0,I_ p1,I_ p2,I_ (pr s (a+3))]) (t:=61) (fr:=(0,0)) (hn_ _ _)) (by simp [Value.oneCell']) (by omega) (by unfold maxLen;omega) (by omega) (by simp;omega) (wr.heap.size+1) (by simp) ?_
          intro g2 fE w2 dw bS jH kV;have t2:=vL.step (vL.alloc (vL.drewN HT.o _) _) bS (fun k' h=>(ol_ HO.o k' h).1);have e2:=fC (oa_ (iJ HE.o _) _) (oa_ (iJ HO.o _) _) (by decide) bS;have r2:=fC (oa_ (iJ HRR.o _) _) (oa_ (iJ HO.o _) _) (by decide) bS;have c2:=bP 2 t2.own rfl;have f2:=bL t2.own 2;refine hK _ _ ?_
          clear hK K;refine kR 23 (.pointer (some (a_ (w.heap.size+1) 2))) ?_
          refine uI 24 (fun K hK=>?_)
          go_simp
          refine hK _ _ ?_
          clear hK K;refine wpAny_done (by kernel_rfl) ?_ _;refine NoPanic.normal ?_
          have t3:=t2.ahC (s_ g2 (k+1) fE);have og:=ob_ dw (a:=(a_ (w.heap.size+1) 2)) (ls_ _) (s_ g2 (k+1) fE);have e3:=ob_ e2 (a:=(a_ (w.heap.size+1) 2)) (ls_ _) (s_ g2 (k+1) fE);have r3:=ob_ r2 (a:=(a_ (w.heap.size+1) 2)) (ls_ _) (s_ g2 (k+1) fE);rw [<-HST.o] at og;clear dw bS jH kV t2 c2 f2 c0 e2 r2 x0 x1 x2 cAl cAm;go_wp2
          go_roundw
          case rel=>exact⟨k+1,_,by omega,by go_num,by have:=HA.o;go_num,t3,e3,r3,og⟩
          case measure=>simp [intOf];omega
       .have hke:k=nC s:=by omega
        subst hke;have HO:=bK (And.intro hE (And.intro hR fH));obtain⟨ae,ce,rfl,-,-,-⟩:=jT hE;obtain⟨ar,cr,rfl,-,-,-⟩:=jT hR;obtain⟨ac,cc,rfl,-,-,-⟩:=jT fH;have m0:=bP 0 ht.own rfl;have m1:=bP 1 ht.own rfl;have m2:=bP 2 ht.own rfl;have HT:=bK ht;clear ht hE hR fH
        go_wp2_with fail
        refine (zQ _ _ _ (eX s) _ (zM HO.o.1 (uT _ _ _).symm) (Bc HO.o.2.1 (nk _ _ _).symm) (EU HO.o.2.2 (yB _ _ _).symm)).mono ?_
        rintro e w5 ⟨bb,rfl,hbb,hB5⟩;have k5:=bN HT.o.o hB5 (bO HT.o.o);have p5:=bN HT.o.own hB5 (bO HT.o.own);have agr:=iT HT.o.uo hB5;have HO5:=bK (And.intro (bU HO.o.1 hB5 di) (And.intro (bU HO.o.2.1 hB5 di) (bU HO.o.2.2 hB5 di)));have o0:=bP 0 k5 rfl;have o1:=bP 1 k5 rfl;have o2:=bP 2 k5 rfl;have f0:=bL k5 0;have f1:=bL k5 1;have f2:=bL k5 2;have n0:=bP 0 p5 rfl;have n1:=bP 1 p5 rfl;have n2:=bP 2 p5 rfl;clear m0 m1 m2 k5 p5 HT HO hB5;cases bb
        .have HN:Hid (¬(Form s/\iy (eX s))):=fun h=>Bool.noConfusion (hbb.2 h.2)
         clear hbb;go_wp2;refine br_ (v:=.tuple #[.agg #[n_,n_,n_],I_ 2]) (by simp [results,Tryz.results31,go_sem,o0,o1,o2]) rfl (.inr ⟨HN.o,rfl,?_⟩);exact ((agr.setCell di _).setCell di _).setCell di _
        .have HN:=bK (hbb.1 rfl);clear hbb;go_wp2;refine br_ (v:=.tuple #[.agg #[.slice ae (nE s) ce,.slice ar (nR s) cr,.slice ac (nC s) cc],I_ 0]) (by simp [results,Tryz.results31,go_sem,o0,o1,o2]) rfl (.inl ⟨HF.o.2 Xn.o,HN.o,_,_,_,rfl,?_,?_,?_,?_⟩)
         .exact ((agr.setCell di _).setCell di _).setCell di _
         .exact dH (ob_ (ob_ (ob_ HO5.o.1 (by show w.heap.size<w.heap.size+2;omega) _) (by show w.heap.size<w.heap.size+2;omega) _) (by show w.heap.size<w.heap.size+2;omega) _) (by omega)
         .exact dH (ob_ (ob_ (ob_ HO5.o.2.1 (by show w.heap.size<w.heap.size+2;omega) _) (by show w.heap.size<w.heap.size+2;omega) _) (by show w.heap.size<w.heap.size+2;omega) _) (by omega)
         .exact dH (ob_ (ob_ (ob_ HO5.o.2.2 (by show w.heap.size<w.heap.size+2;omega) _) (by show w.heap.size<w.heap.size+2;omega) _) (by show w.heap.size<w.heap.size+2;omega) _) (by omega)
 .have hb:((s.size:Int) != 6+2*(nE s:Int)+3*(nR s:Int)+5*(nC s:Int))=true:=by simp;omega
  have Xn:=bK hsz;clear hsz;have o0:=bP 0 kX rfl;have o1:=bP 1 kX rfl;have o2:=bP 2 kX rfl;have f0:=bL kX 0;have f1:=bL kX 1;have f2:=bL kX 2;clear kX sX;go_wp2;refine br_ (v:=.tuple #[.agg #[n_,n_,n_],I_ 2]) (by simp [results,Tryz.results31,go_sem,o0,o1,o2]) rfl (.inr ⟨fun h=>Xn.o (HF.o.1 h.1),rfl,?_⟩);exact ((bX.setCell di _).setCell di _).setCell di _
theorem yn (s:Y_) (w:W_) (hs:s.size<=9223372036854775807):C_ 31 #[.string s] w (I7 2 s w):=by
 by_cases h:6<=s.size/\bt s 0=87/\bt s 1=82
 .exact Fg s w hs h.1 h.2.1 h.2.2
 .exact Cs s w hs h
end Go.Proofs.YtmccnmgaoppogaaGreat
