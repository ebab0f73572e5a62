import Derived.Test.YtmccnmgaoppogaaGreatJA
namespace Go.Proofs.YtmccnmgaoppogaaGreat
open Pu
set_option linter.all false
set_option maxRecDepth 100000
set_option maxHeartbeats 8000000
open Go.RowKit
variable {W w:W_} {B cap g gw n size t:Nat} {xs:List V_} {v vc:V_} {code:List dY}
theorem QF (l:List Nat) (low:Nat) (w:W_) (hl:l.length=256) (hlow:low<256) :
  C_ 145 #[.agg (bV l).toArray,I_ low] w (mW (I_ (iZ l low 256:Nat)) w):=by
 have W0:Hid (dh (w.alloc (c_ (bV l).toArray 140)) w.heap.size 140 (bV l)):=hn_ _ _;have B0:Hid (B_ w (w.alloc (c_ (bV l).toArray 140))):=mi _;have HL:=bK hl;clear hl;go_enter Tryz.func145,Tryz.ntmps145
 go_wp2_with fail
 go_loopg [5] (256-low) (fun gk hv wx=>∃(h f:Nat),h<256/\gk=256-h/\hv=I_ h/\B_ w wx/\dh wx w.heap.size 140 (bV l)/\l.getD h 0=l.getD low 0/\256-h<=f/\iZ l h f=iZ l low 256)
 case atStart=>exact⟨low,256,hlow,rfl,rfl,B0.o,W0.o,rfl,by omega,rfl⟩
 case round=>
  clear B0 W0;obtain⟨h,f,h256,rfl,rfl,hb,hB,he,hf,hR⟩:=hrel;obtain⟨f',rfl⟩:∃f',f=f'+1:=⟨f-1,by omega⟩;have pE:Hid ((if h+1<256/\l.getD (h+1) 0=l.getD h 0 then iZ l (h+1) f' else h)=iZ l low 256):=hR;have HB:=bK hb;have HBB:=bK hB;have HE:=bK he;have wh:=kg h;clear hR hb he;by_cases hh:h+1<256
  .have d1:decide ((h:Int)+1<256)=true:=dt_ (by omega);have d1':(h:Int)+1<256:=by omega
   have ih0:(0:Int)<=h+1:=by omega
   have il0:=jg low;have il1:(low:Int)<256:=by omega
   obtain⟨p,hp⟩:∃p,l[h+1]?=some p:=⟨_,gg_ (by rw [HL.o];exact hh)⟩;obtain⟨q,hq⟩:∃q,l[low]?=some q:=⟨_,gg_ (by rw [HL.o];exact hlow)⟩;have x1:wr.cell? (a_ w.heap.size (h+1))=some (I_ p):=bM hB (iD hp);have x2:wr.cell? (a_ w.heap.size low)=some (I_ q):=bM hB (iD hq);have P1:Hid (l.getD (h+1) 0=p/\l.getD h 0=q):=by refine⟨by rw [gd_,hp];rfl,?_⟩;rw [HE.o,gd_,hq];rfl
   have tn:((h:Int)+1).toNat=h+1:=by omega
   clear hB hp hq;by_cases e:p=q
   focus
    have NX:Hid (iZ l (h+1) f'=iZ l low 256):=by have:=pE.o;rw [if_pos ⟨hh,by rw [P1.o.1,P1.o.2];exact e⟩] at this;exact this
    have E2:Hid (l.getD (h+1) 0=l.getD low 0):=by show _=_;rw [<-HE.o,P1.o.1,P1.o.2];exact e
    subst e
   rotate_left
   focus
    have R:Hid (iZ l low 256=h):=by have:=pE.o;rw [if_neg (fun a=>e (by rw [<-P1.o.1,<-P1.o.2];exact a.2))] at this;exact this.symm
    have e1:((p:Int) == (q:Int))=false:=by simp;omega
    have e2:¬(p:Int)=q:=by omega
    have e3:decide ((p:Int)=q)=false:=dn_ e2
   rotate_left
   all_goals
    clear pE P1 HE
    go_wp2_with fail
    go_quiet (fail);have dn:=bK (bd_ HB.o nq)
   .have bn:Hid (dh (wr.drewN nq) w.heap.size 140 (bV l)):=HBB.o;go_wp2;go_roundg (256-(h+1))
    case measure=>omega
    case rel=>exact⟨h+1,f',hh,rfl,by go_num,dn.o,bn.o,E2.o,by omega,NX.o⟩
   .go_wp2;go_ret;exact⟨by rw [R.o];rfl,dn.o⟩
  .have d1:decide ((h:Int)+1<256)=false:=dn_ (by omega);have R:Hid (iZ l low 256=h):=by have:=pE.o;rw [if_neg (fun a=>hh a.1)] at this;exact this.symm
   clear pE HE hB
   go_wp2_with fail
   go_quiet (fail);have dn:=bK (bd_ HB.o nq);go_wp2;go_ret;exact⟨by rw [R.o];rfl,dn.o⟩
theorem Ik:(Tryz.prog.info? 61).map (fun i=>(i.zero,i.size,i.bytes))=some (some (.agg #[I_ 0,I_ 0,I_ 0,I_ 0]),4,32):=by kernel_rfl
theorem Aa {ops:Array Oper} {rest:List Oper} {o:Oper} {a:Act} {Q:Exit->Act->W_->Prop} (hgd:o.guard=none) (s x:Operand)
  (ho:o.op=.call { callee:=.builtin .append,args:=#[s,x],argTypes:=#[41,41] }) (base:Nat) (v:V_) (u:List dY) (q:dY) (gx:Nat) (hs:a.eval s=v) (fH:w.ownsRow base 61 4 v u.length (dC u))
  (hx:a.eval x=s_ gx 1 1) (hb:dh w gx 61 [I_ q.op,I_ q.a,I_ q.b,I_ q.bG]) (kU:u.length<=1000000) (nX:base<=w.heap.size)
  (h:∀v' w',w'.ownsRow base 61 4 v' (u++[q]).length (dC (u++[q]))->w.grownBy w' v.ownBlock->wpList Tryz.prog ops Q rest (a.put o.dst v') w'):wpList Tryz.prog ops Q (o::rest) a w:=by
 obtain⟨il,hil,hl0,hl1,hl2⟩:=ip_ Ik;refine wo_ _ hgd s x 41 ho base 61 il _ 4 32 Tryz.underlying41 hil hl0 hl1 hl2 rfl (by decide) v u.length (dC u) hs fH (a_ gx 0) 1 1 [I_ q.op,I_ q.a,I_ q.b,I_ q.bG] hx rfl ?_ (fun z hz=>by simp at hz;rcases hz with rfl | rfl | rfl | rfl <;> rfl) (by unfold maxLen;omega) (by omega) nX ?_
 .intro j y hy;have:=bM hb hy;simpa [add_eq] using this
 .intro v' w' h1 h2 _;refine h v' w' ?_ h2;have e:dC (u++[q])=dC u++[I_ q.op,I_ q.a,I_ q.b,I_ q.bG]:=by simp [dC]
  rw [la_,e];exact h1
def af7 (l:List dY) (w:W_) (e:Ending) (w':W_):Prop:=∃v,e=.returned v/\B_ w w'/\w'.ownsRow w.heap.size 61 4 v l.length (dC l)
namespace Pu
theorem xR (l:List Nat):∀(f low:Nat),low<256->low<=iZ l low f/\iZ l low f<256:=by
 intro f
 induction f with
 | zero=>intro low h;exact⟨di,h⟩
 | succ f ih=>
  intro low h;unfold iZ;split
  .rename_i c
   have:=ih (low+1) c.1;omega
  .exact⟨di,h⟩
end Pu
theorem Rs (l:List Nat) (w:W_) (hl:l.length=256) :
  C_ 120 #[.agg (bV l).toArray] w (af7 (iF l) w):=by
 have W0:Hid (dh ((w.alloc (c_ (bV l).toArray 140)).alloc (c_ #[] 61)) w.heap.size 140 (bV l)):=dx (hn_ _ _) _;have B0:Hid (B_ w ((w.alloc (c_ (bV l).toArray 140)).alloc (c_ #[] 61))):=(mi _).alloc (by simp) _;have O0:Hid (((w.alloc (c_ (bV l).toArray 140)).alloc (c_ #[] 61)).ownsRow w.heap.size 61 4 (s_ (w.heap.size+1) 0 0) 0 (dC [])):=by have h2:=hn_ (w.alloc (c_ (bV l).toArray 140)) (c_ #[] 61);rw [wa_] at h2;exact⟨rfl,.inr ⟨w.heap.size+1,0,#[],rfl,by omega,h2,di,by unfold maxLen;omega,rfl,rfl⟩⟩
 have HL:=bK hl;clear hl;go_enter Tryz.func120,Tryz.ntmps120
 go_wp2_with fail
 go_loopg [3,4,5] 256 (fun gk sv lv _ wx=>∃(low f:Nat) (acc:List dY),low<=256/\gk=256-low/\lv=I_ low/\acc.length<=low/\257-low<=f/\oO l f low acc=iF l/\B_ w wx/\dh wx w.heap.size 140 (bV l)/\wx.ownsRow w.heap.size 61 4 sv acc.length (dC acc))
 case atStart=>exact⟨0,257,[],zl_ _,rfl,rfl,di,di,rfl,B0.o,W0.o,O0.o⟩
 case round=>
  clear B0 W0 O0;obtain⟨low,f,acc,ll,rfl,rfl,al,fl,hW,hb,hB,ho⟩:=hrel;obtain⟨f',rfl⟩:∃f',f=f'+1:=⟨f-1,by omega⟩;have pE:Hid ((if low<256 then oO l f' (iZ l low 256+1) (if l.getD low 0=0 then acc else acc++[⟨3,low,(iZ l low 256:Nat),(l.getD low 0:Nat)⟩]) else acc)=iF l):=hW;obtain⟨av,cv,rfl,_,_⟩:=dS ho;have HB:=bK hb;have HBB:=bK hB;have HO:=bK ho;clear hW hb ho;by_cases hl2:low<256
  .have d1:decide ((low:Int)<256)=true:=dt_ (by omega);have il0:=jg low;have il1:(low:Int)<256:=by omega
   obtain⟨p,hp⟩:∃p,l[low]?=some p:=⟨_,gg_ (by rw [HL.o];exact hl2)⟩;have BD:=xR l 256 low hl2;have RS:Hid (oO l f' (iZ l low 256+1) (if p=0 then acc else acc++[⟨3,low,(iZ l low 256:Nat),(p:Nat)⟩])=iF l):=by have:=pE.o;rw [if_pos hl2,show l.getD low 0=p by rw [gd_,hp];rfl] at this;exact this
   have NG:=bK (iD hp);have RG:Hid (wr.rangeAt w.heap.size 0 (bV l)):=dZ hB;have Xp:(bV l).length=256:=by rw [gX];exact HL.o
   have fw:=bK (fun W=>QF l low W HL.o hl2);clear pE hp hB;go_upto_region 5 with (first | (refine wl_ rfl 140 (.tmp 1) rfl w.heap.size 0 rfl _ _ RG.o Tryz.underlying140 rfl (by rw [Xp];kernel_rfl) ?_) | (go_at_call 145;refine (fw.o _).mono ?_;rintro e w3 ⟨rfl,hb3⟩));have B3:=bK (HB.o.trans (hb3.mono HB.o.size));have K3:=bK (bN HBB.o hb3 (bO HBB.o));have O3:=bK (bU HO.o hb3 di);have x1:=bM K3.o NG.o;clear hb3 HB HBB HO RG fw NG;generalize hre:iZ l low 256=hi at *;have wh:=kg hi;clear hre;by_cases e:p=0
   .subst e;have XL:Hid (oO l f' (hi+1) acc=iF l):=by have:=RS.o;rw [if_pos rfl] at this;exact this
    clear RS;go_wp2;go_roundg (256-(hi+1))
    case measure=>omega
    case rel=>exact⟨hi+1,f',acc,by omega,rfl,by go_num,by omega,by omega,XL.o,B3.o,K3.o,O3.o⟩
   .have XL:Hid (oO l f' (hi+1) (acc++[⟨3,low,(hi:Nat),(p:Nat)⟩])=iF l):=by have:=RS.o;rw [if_neg e] at this;exact this
    have e1:((p:Int) == 0)=false:=by simp;omega
    have e2:¬(p:Int)=0:=by omega
    have e3:((p:Int) != 0)=true:=by simp;omega
    have qm:B_ w3 (w3.alloc (c_ #[I_ 3,I_ low,I_ hi,I_ p] 61)):=mi _;have BA:=bK (B3.o.trans (qm.mono B3.o.size));have KA:=bK (bN K3.o qm (bO K3.o));have OA:=bK (bU O3.o qm di);have LN:acc.length<=1000000:=by omega
    have NB:Hid (dh (w3.alloc (c_ #[I_ 3,I_ low,I_ hi,I_ p] 61)) w3.heap.size 61 [I_ 3,I_ low,I_ hi,I_ p]):=hn_ _ _;clear RS qm B3 O3 K3;go_upto_region 7 with (at_builtin;go_must (refine Aa rfl (.tmp 16) (.tmp 23) rfl w.heap.size _ acc ⟨3,low,(hi:Nat),(p:Nat)⟩ w3.heap.size rfl OA.o rfl NB.o LN BA.o.size ?_);intro v8 w8 jd eO);have K8:=bK (dR OA.o KA.o (by decide) eO);have B8:=bK (BA.o.grown eO BA.o.size (fun k' e=>(ol_ OA.o k' e).1));have O8:=bK jd;clear jd eO OA KA BA NB x1;go_wp2;go_roundg (256-(hi+1))
    case measure=>omega
    case rel=>exact⟨hi+1,f',_,by omega,rfl,by go_num,by simp;omega,by omega,XL.o,B8.o,K8.o,O8.o⟩
  .have d1:decide ((low:Int)<256)=false:=dn_ (by omega);have R:Hid (iF l=acc):=by have:=pE.o;rw [if_neg hl2] at this;exact this.symm
   clear pE hB;go_wp2;go_ret;exact⟨_,rfl,HB.o,by rw [R.o];exact HO.o⟩
structure Lk (gw:Nat) (ob Qo:Option Nat) (w w':W_):Prop where
 os:w'.os=w.os
 tape:w'.tape=w.tape
 output:w'.output=w.output
 size:w.heap.size<=w'.heap.size
 block:∀k,k<w.heap.size->k≠gw->some k≠ob->w'.heap[k]?=w.heap[k]?
 row:Qo=ob\/∃g,Qo=some g/\w.heap.size<=g
section
variable {gw:Nat} {ob Qo ob'':Option Nat} {w w' w'':W_}
theorem Lk.refl (gw:Nat) (ob:Option Nat) (w:W_):Lk gw ob ob w w:=⟨rfl,rfl,rfl,di,fun _ _ _ _=>rfl,.inl rfl⟩
theorem Lk.trans (h:Lk gw ob Qo w w') (h':Lk gw Qo ob'' w' w''):Lk gw ob ob'' w w'':=by
 refine⟨h'.os.trans h.os,h'.tape.trans h.tape,h'.output.trans h.output,lt_ h.size h'.size,fun k hk h1 h2=>?_,?_⟩
 .rw [h'.block k (Nat.lt_of_lt_of_le hk h.size) h1 (fun e=>?_)]
  .exact h.block k hk h1 h2
  .rcases h.row with r | ⟨g,r,hg⟩
   .rw [r] at e;exact h2 e
   .rw [r] at e;have:=oi_ e;omega
 .rcases h'.row with r | ⟨g,r,hg⟩
  .rcases h.row with r' | ⟨g,r',hg⟩
   .exact .inl (r.trans r')
   .exact .inr ⟨g,r.trans r',hg⟩
  .exact .inr ⟨g,r,lt_ h.size hg⟩
theorem Lk.below (h:B_ w w'):Lk gw ob ob w w':=⟨h.os,h.tape,h.output,h.size,fun k hk _ _=>h.block k hk,.inl rfl⟩
theorem Lk.fA (h:Lk gw ob Qo w w') (hb:dh w g t xs) (h1:g≠gw) (h2:some g≠ob):dh w' g t xs:=by unfold dh;rw [h.block g (bO hb) h1 h2];exact hb
theorem Lk.rows (h:Lk gw ob Qo w w') (hn:w.ownsRow B t size v n xs) (h1:∀k,v.ownBlock=some k->k≠gw/\some k≠ob):w'.ownsRow B t size v n xs:=by
 refine⟨hn.1,?_⟩;rcases hn.2 with h0 | ⟨g,cap,cur,h3,h4,h5,h6⟩
 .exact .inl h0
 .refine .inr ⟨g,cap,cur,h3,h4,?_,h6⟩;have k:=h1 g (by rw [h3];rfl);rw [h.block g (Array.getElem?_eq_some_iff.1 h5).1 k.1 k.2];exact h5
end
structure Wc (B gw:Nat) (vc:V_) (code:List dY) (W:W_):Prop where
 b:dh W gw 150 [vc]
 own:W.ownsRow B 61 4 vc code.length (dC code)
 lo:B<=gw
theorem Wc.below {W':W_} (h:Wc B gw vc code W) (hb:B_ W W'):Wc B gw vc code W':=⟨bN h.b hb (bO h.b),bU h.own hb di,h.lo⟩
def vO (x:dY):List V_:=[I_ x.op,I_ x.a,I_ x.b,I_ x.bG]
theorem Vd (x:dY):∀u∈vO x,u.oneCell'=true:=by intro u hu;simp [vO] at hu;rcases hu with rfl | rfl | rfl | rfl <;> rfl
theorem Jr (code:List dY) (x:dY):dC (code++[x])=dC code++vO x:=by simp [dC,vO]
theorem Y4 (x:dY):Instr.fill (fun i=>some (i*4,4)) ((Array.range (1*4)).map fun j=>((Value.agg #[I_ 0,I_ 0,I_ 0,I_ 0]).cells)[j % (Value.agg #[I_ 0,I_ 0,I_ 0,I_ 0]).cells.size]!) [(0,.agg (vO x).toArray)]=some (vO x).toArray:=by rw [ru];have:=uz (fun i=>some (i*4,4)) (vO x) ((List.range (1*4)).map fun j=>((Value.agg #[I_ 0,I_ 0,I_ 0,I_ 0]).cells)[j % (Value.agg #[I_ 0,I_ 0,I_ 0,I_ 0]).cells.size]!) rfl di;exact this
theorem qY {gx:Nat} {x:dY} (h:dh W gx 61 (vO x)):W.cell? (a_ gx 0)=some (I_ x.op)/\W.cell? (a_ gx 1)=some (I_ x.a)/\W.cell? (a_ gx 2)=some (I_ x.b)/\W.cell? (a_ gx 3)=some (I_ x.bG):=
 ⟨bM (j:=0) h rfl,bM (j:=1) h rfl,bM (j:=2) h rfl,bM (j:=3) h rfl⟩
def vB (B gw:Nat) (vc:V_) (code:List dY) (w:W_) (w':W_):Prop:=∃vc',Lk gw vc.ownBlock vc'.ownBlock w w'/\Wc B gw vc' code w'
theorem aca {x:dY} {w2:W_} {g2 fE H:Nat} (h:Wc B gw vc code W) (lk:Lk gw vc.ownBlock vc.ownBlock w W) (hH:w.heap.size<=H) (ho:w2.ownsRow B 61 4 (s_ g2 (code.length+1) fE) (code.length+1) (dC code++vO x)) (hg:W.grownBy w2 vc.ownBlock) (hat:vc.ownBlock=some g2\/g2=H) :
  vB B gw vc (code++[x]) w (w2.setCell (a_ gw 0) (s_ g2 (code.length+1) fE)):=by
 have b2:=dR h.own h.b (by decide) hg;have g3:=gs_ w2 gw 0 (s_ g2 (code.length+1) fE);refine⟨s_ g2 (code.length+1) fE,⟨g3.os.trans (hg.os.trans lk.os),g3.tape.trans (hg.tape.trans lk.tape),g3.output.trans (hg.output.trans lk.output),lt_ lk.size (lt_ hg.size g3.size),fun k hk h1 h2=>?_,?_⟩,cO b2 0 _,?_,h.lo⟩
 .rw [g3.block k (Nat.lt_of_lt_of_le hk (lt_ lk.size hg.size)) (fun e=>h1 (oi_ e)),hg.block k (Nat.lt_of_lt_of_le hk lk.size) h2];exact lk.block k hk h1 h2
 .rcases hat with e | e
  .exact .inl e.symm
  .exact .inr ⟨g2,rfl,by rw [e];exact hH⟩
 .have:=dA ho b2 (by decide) g3;rw [la_,Jr];exact this
theorem qz (B gw:Nat) (vc:V_) (code:List dY) (x:dY) (w:W_) (h:Wc B gw vc code w) (hl:code.length<=1000000) :
  C_ 89 #[p_ gw,.agg #[I_ x.op,I_ x.a,I_ x.b,I_ x.bG]] w (fun e w'=>e=.returned (.tuple #[])/\vB B gw vc (code++[x]) w w'):=by
 obtain⟨ip,hp,hp0,hp1,hp2⟩:=ip_ Ik;have hb0:B_ w (w.alloc (c_ #[I_ x.op,I_ x.a,I_ x.b,I_ x.bG] 61)):=mi _;have H0:=bK (h.below hb0);have LK0:Hid (Lk gw vc.ownBlock vc.ownBlock w (w.alloc (c_ #[I_ x.op,I_ x.a,I_ x.b,I_ x.bG] 61))):=.below hb0;have XB:Hid (dh (w.alloc (c_ #[I_ x.op,I_ x.a,I_ x.b,I_ x.bG] 61)) w.heap.size 61 (vO x)):=hn_ _ _;have adU:Hid (some w.heap.size≠vc.ownBlock):=fun e=>by have:=(ol_ h.own _ e.symm).2;omega
 have NXW:Hid (w.heap.size≠gw):=by have:=bO h.b;show _≠_;omega
 have GW:=bO h.b;have c0:=bP 0 H0.o.b rfl;have Rw:Hid (∀W0:W_,W0=w.alloc (c_ #[I_ x.op,I_ x.a,I_ x.b,I_ x.bG] 61)->w.heap.size<=W0.heap.size+1):=by rintro W0 rfl;have:=hb0.size;omega
 clear hb0;go_enter Tryz.func89,Tryz.ntmps89
 go_wp2_with fail
 have afU:=bK (Rw.o _ rfl);clear Rw;generalize w.alloc (c_ #[I_ x.op,I_ x.a,I_ x.b,I_ x.bG] 61)=W0 at *;have Rw:=bK afU.o;generalize hgx:w.heap.size=gx at *;have hb2:=((Br_ W0.heap.size W0).alloc di (c_ (vO x).toArray 61)).drew;have H2:=bK (H0.o.below hb2);have LK1:=bK (LK0.o.trans (.below hb2));have XB2:=bK (bN XB.o hb2 (bO XB.o));have BL2:Hid (B<=(W0.alloc (c_ (vO x).toArray 61)).drew.heap.size):=by have:=H2.o.lo;have:=bO H2.o.b;show _<=_;omega
 have S1:=qY (W:=W0.drew) XB.o;have S2:=qY XB2.o;have c2':=bP 0 H2.o.b rfl;clear hb2;refine wd_ (S:=fun w'=>w'.cell? (a_ gx 0)=some (I_ x.op)/\w'.cell? (a_ gx 1)=some (I_ x.a)/\w'.cell? (a_ gx 2)=some (I_ x.b)/\w'.cell? (a_ gx 3)=some (I_ x.bG)) (by kernel_rfl) S1 (fun dF=>?_);refine bW 0 ?_
 refine bW 1 ?_
 refine bW 2 ?_
 refine bW 3 ?_
 refine bW 5 ?_
 refine xY 4 6 (fun K hK=>?_) (fun K hK=>?_)
 focus
  go_simp
  refine hK.out _ _ dF (fun fV=>?_);clear hK K
  try simp only [nU,Act.put]
  refine fq 6 (fun K hK=>?_)
 rotate_left
 rotate_left
 all_goals
  refine eQ 41 61 0 (.tmp 9) (.agg (vO x).toArray) rfl rfl (vO x).toArray ip _ 4 Tryz.underlying41 hp hp0 hp1 (by omega) (by omega) (Y4 x) ?_
 rotate_left
 focus
  refine hK.out _ _ S2 (fun fV=>?_);clear hK K
  try simp only [nU,Act.put]
  refine fq 4 (fun K hK=>?_)
  go_simp
 all_goals
  refine hK.out _ _ S2 (fun lh=>?_);clear hK K
  try simp only [nU,Act.put]
  refine fq 7 (fun K hK=>?_);refine sa_ _ (by rfl) _ _ _ (by rfl) B 61 ip _ 4 32 Tryz.underlying41 hp hp0 hp1 hp2 rfl (by omega) vc code.length (dC code) (by rfl) H2.o.own (a_ W0.heap.size 0) 1 1 (vO x) (by rfl) rfl (World.news_of_block (cs:=(vO x).toArray) (t:=61) (fr:=(0,0)) (hn_ _ _)) (Vd x) (by omega) (by unfold maxLen;omega) (by omega) BL2.o (W0.heap.size+1) (by simp) ?_
  intro g2 fE w2 dw bS jH kV;have kD:=dR H2.o.own H2.o.b (by decide) bS;have WJ:=bQ XB2.o bS adU.o;refine hK.out _ _ (qY WJ) (fun lq=>?_);have k5:=bP 0 kD rfl;have Ps:=bL kD 0;clear hK K
  try simp only [nU,Act.put]
  refine bW 8 ?_
  refine bW 9 ?_
  refine fq 10 (fun K hK=>?_)
  go_simp
  have hg3:=gs_ w2 gw 0 (s_ g2 (code.length+1) fE);have xb3:=bQ WJ hg3 (fun e=>NXW.o (oi_ e));refine hK.out _ _ (qY xb3) (fun oM=>?_);clear hK K;refine wpAnyH_done (by kernel_rfl) ?_ _;have R3:=bK (aca H2.o LK1.o (by rw [hgx];exact Rw.o) dw bS jH);clear lq oM kD WJ xb3 k5 Ps dw bS jH kV hg3 H2 XB2;go_wp2
  go_end0
  exact⟨rfl,R3.o⟩
def vP (k:aA):List V_:=I_ k.rule::bV k.longer
theorem Wc.ne (h:Wc B gw vc code W) (hb:dh W g t xs) (ht:t≠61):some g≠vc.ownBlock:=by
 intro e;rcases h.own.2 with ⟨e1,_⟩ | ⟨g',cap,cur,e1,_,h4,_⟩
 .rw [e1] at e;cases e
 .rw [e1] at e;cases e
  unfold dh at hb;rw [hb] at h4;cases h4;exact ht rfl
theorem Wc.new (h:Wc B gw vc code W) {k:Nat} (hk:W.heap.size<=k):some k≠vc.ownBlock:=fun e=>by have:=(ol_ h.own k e.symm).2;omega
structure Ks (B gw gk:Nat) (k:aA) (ob:Option Nat) (w:W_) (vc:V_) (code:List dY) (W:W_):Prop where
 wc:Wc B gw vc code W
 lk:Lk gw ob vc.ownBlock w W
 bx:dh W gk 148 (vP k)
section
variable {B gw gk:Nat} {k:aA} {ob:Option Nat} {w W W':W_} {vc vc':V_} {code BH:List dY}
theorem Ks.below (h:Ks B gw gk k ob w vc code W) (hb:B_ W W'):Ks B gw gk k ob w vc code W':=⟨h.wc.below hb,h.lk.trans (.below hb),bN h.bx hb (bO h.bx)⟩
theorem Ks.on (h:Ks B gw gk k ob w vc code W) (hl:Lk gw vc.ownBlock vc'.ownBlock W W') (hw:Wc B gw vc' BH W'):Ks B gw gk k ob w vc' BH W':=
 ⟨hw,h.lk.trans hl,hl.fA h.bx (dD h.bx h.wc.b (by decide)) (h.wc.ne h.bx (by decide))⟩
end
namespace Pu
theorem Rp (l:List Nat):∀(f low:Nat) (acc:List dY),acc.length<=low->low<=256->(oO l f low acc).length<=256:=by
 intro f
 induction f with
 | zero=>intro low acc h1 h2;exact lt_ h1 h2
 | succ f ih=>
  intro low acc h1 h2;unfold oO;split
  .rename_i hl
   have:=xR l 256 low hl;refine ih _ _ ?_ (by omega);split
   .omega
   .simp;omega
  .omega
theorem FZ (l:List Nat):(iF l).length<=256:=Rp l 257 0 [] di (by omega)
end Pu
theorem Zf (B gw:Nat) (vc:V_) (code:List dY) (k:aA) (w:W_) (h:Wc B gw vc code w) (hl:code.length<=900000) (hk:k.longer.length=256) :
  C_ 90 #[p_ gw,.agg (vP k).toArray] w (fun e w'=>e=.returned (.tuple #[])/\vB B gw vc (code++dL k) w w'):=by
 have hb0:B_ w (w.alloc (c_ (vP k).toArray 148)):=mi _
 have K0:Hid (Ks B gw w.heap.size k vc.ownBlock w vc code (w.alloc (c_ (vP k).toArray 148))):=⟨h.below hb0,.below hb0,hn_ _ _⟩
 have HK:=bK hk;clear h hb0 hk;go_enter Tryz.func90,Tryz.ntmps90;go_upto_region 1 with (fail)
 generalize w.alloc (c_ (vP k).toArray 148)=W0 at *;generalize Km:w.heap.size=gk at *;have x0:W0.cell? (a_ gk 0)=some (I_ k.rule):=bM (j:=0) K0.o.bx rfl;by_cases e:k.rule=-1
 focus
  rw [e] at x0;go_upto_region 3 with (fail);clear x0
  have RG:Hid (W0.rangeAt gk 1 (bV k.longer)):=fun j u hu=>by have:=dZ K0.o.bx (1+j) u (by unfold vP;rw [Nat.add_comm,cs_];exact hu);rwa [Nat.zero_add] at this
 rotate_left
 focus
  have e1:(k.rule == -1)=false:=by simp [e]
  have e2:(k.rule != -1)=true:=by simp [e]
  have e3:decide (k.rule=-1)=false:=dn_ e
  go_wp2_with fail
  refine (qz B gw vc code ⟨1,k.rule,0,0⟩ W0 K0.o.wc (by omega)).mono ?_
  rintro e' w2 ⟨rfl,vc1,lk,wc⟩;have K2:=bK (K0.o.on lk wc);clear lk wc x0 K0;go_upto_region 3 with (fail)
  have RG:Hid (w2.rangeAt gk 1 (bV k.longer)):=fun j u hu=>by have:=dZ K2.o.bx (1+j) u (by unfold vP;rw [Nat.add_comm,cs_];exact hu);rwa [Nat.zero_add] at this
 rotate_left
 all_goals
  have Xp:(bV k.longer).length=256:=by rw [gX];exact HK.o
  have fw:=bK (fun W=>Rs k.longer W HK.o);go_upto_region 4 with (first | (refine wl_ rfl 140 (.tmp 15) rfl gk 1 rfl _ _ RG.o Tryz.underlying140 rfl (by rw [Xp];kernel_rfl) ?_) | (go_at_call 120;refine (fw.o _).mono ?_;rintro e w3 ⟨vw,rfl,hb3,ow⟩));obtain⟨aw,cw,rfl,_,_⟩:=dS ow
 focus
  have K3:=bK (K0.o.below hb3);have OW:=bK ow;have NEW:Hid (∀b,(Value.slice aw (iF k.longer).length cw).ownBlock=some b->b≠gw/\some b≠vc.ownBlock):=fun b e=>by have h1:=(ol_ ow b e).1;exact⟨by have:=bO K0.o.wc.b;omega,K0.o.wc.new h1⟩
  clear hb3 ow RG fw K0
 rotate_left
 focus
  have K3:=bK (K2.o.below hb3);have OW:=bK ow;have NEW:Hid (∀b,(Value.slice aw (iF k.longer).length cw).ownBlock=some b->b≠gw/\some b≠vc1.ownBlock):=fun b e=>by have h1:=(ol_ ow b e).1;exact⟨by have:=bO K2.o.wc.b;omega,K2.o.wc.new h1⟩
  clear hb3 ow RG fw K2
 rotate_left
 all_goals
  have WL:=FZ k.longer;generalize hws:iF k.longer=ws at *;have HWS:=bK hws;clear hws
 .by_cases hz:ws.length=0
  .have FC:Hid (code++dL k=(code++ws)++[⟨5,0,0,0⟩]):=by show _=_;unfold dL;rw [HWS.o,if_pos hz,if_pos e];simp
   have dz:=mM (0:Int) (ws.length:Int);have hz2:¬0<ws.length:=by omega
   have LB:=bO K3.o.wc.b;go_upto_region 7 with (fail)
   go_loopg [6,26] ws.length (fun gm _ iv wx=>∃(i:Nat) (vX:V_),i<=ws.length/\gm=ws.length-i/\iv=I_ i/\Ks B gw gk k vc.ownBlock w vX (code++ws.take i) wx/\wx.ownsRow _ 61 4 (.slice aw ws.length cw) ws.length (dC ws)/\∀b,(Value.slice aw ws.length cw).ownBlock=some b->b≠gw/\some b≠vX.ownBlock)
   case atStart=>exact⟨0,vc,zl_ _,rfl,rfl,by rw [List.take_zero,List.append_nil];exact K3.o,OW.o,NEW.o⟩
   case round=>
    clear K3 OW NEW;obtain⟨i,vX,il,rfl,rfl,hK,ho,hne⟩:=hrel;have WN:=bK hK;have HOX:=bK ho;have OM:=bK hne;by_cases hi:i<ws.length
    .exact absurd hi (by omega)
    .have d1:=mM i ws.length;have ei:i=ws.length:=by omega
     have TK:Hid (code++ws.take i=code++ws):=by show _=_;rw [ei,List.take_length]
     have CL:Hid ((code++ws).length<=1000000):=by show _<=_;simp only [la_];omega
     rw [TK.o] at hK;have KX:=bK hK;clear hK ho hne WN HOX OM TK ei
     go_wp2_with fail
     refine (qz B gw vX _ ⟨5,0,0,0⟩ wr KX.o.wc CL.o).mono ?_
     rintro e' w6 ⟨rfl,vY,lk,wc⟩;have FIN:Hid (vB B gw vc (code++dL k) w w6):=⟨vY,KX.o.lk.trans lk,by rw [FC.o];exact wc⟩;clear lk wc KX;go_wp2
     go_end0
     exact⟨rfl,FIN.o⟩
  .have FC:Hid (code++dL k=((code++[(⟨2,0,0,0⟩:dY)])++ws)++[⟨5,0,0,0⟩]):=by show _=_;unfold dL;rw [HWS.o,if_neg hz,if_pos e];simp
   have dz:=nV (0:Int) (ws.length:Int);have hz2:0<ws.length:=by omega
   go_wp2_with fail
   refine (qz B gw vc _ ⟨2,0,0,0⟩ w3 K3.o.wc (by (try simp only [la_,lc_,ln_]);omega)).mono ?_
   rintro e' w4 ⟨rfl,vc4,lk,wc⟩;have K4:=bK (K3.o.on lk wc);have OW4:=bK (lk.rows OW.o NEW.o)
   have Xt:Hid (∀b,(Value.slice aw ws.length cw).ownBlock=some b->b≠gw/\some b≠vc4.ownBlock):=fun b eb=>by
    refine⟨(NEW.o b eb).1,?_⟩;rcases lk.row with r | ⟨g,r,hg⟩
    .rw [r];exact (NEW.o b eb).2
    .rw [r];intro e2;have:=oi_ e2;have:=(ol_ OW.o b eb).2;omega
   clear lk wc K3 OW NEW;have OW:=bK OW4.o;have NEW:=bK Xt.o;clear OW4 Xt;have LB:=bO K4.o.wc.b;go_upto_region 7 with (fail)
   go_loopg [6,26] ws.length (fun gm _ iv wx=>∃(i:Nat) (vX:V_),i<=ws.length/\gm=ws.length-i/\iv=I_ i/\Ks B gw gk k vc.ownBlock w vX ((code++[(⟨2,0,0,0⟩:dY)])++ws.take i) wx/\wx.ownsRow _ 61 4 (.slice aw ws.length cw) ws.length (dC ws)/\∀b,(Value.slice aw ws.length cw).ownBlock=some b->b≠gw/\some b≠vX.ownBlock)
   case atStart=>exact⟨0,vc4,zl_ _,rfl,rfl,by rw [List.take_zero,List.append_nil];exact K4.o,OW.o,NEW.o⟩
   case round=>
    clear K4 OW NEW;obtain⟨i,vX,il,rfl,rfl,hK,ho,hne⟩:=hrel;have WN:=bK hK;have HOX:=bK ho;have OM:=bK hne;by_cases hi:i<ws.length
    .have d1:=nV i ws.length;have wi:=kg i;have ii0:=jg i;have ii1:(i:Int)<ws.length:=by omega
     obtain⟨y,hy⟩:=qG ws i hi;obtain⟨gv,cv,ev,_,_⟩:=dJ ho (by omega);cases ev;have gy:ws.getD i Pu.aS=y:=by rw [gd_,hy];rfl
     have cy:=pQ ws i hi;rw [gy] at cy;have y0:wr.cell? (a_ gv (i*4))=some (I_ y.op):=by have:=bT ho cy.1;rwa [Nat.mul_comm] at this
     have y1:wr.cell? (a_ gv (i*4+1))=some (I_ y.a):=by have:=bT ho cy.2.1;rwa [Nat.mul_comm] at this
     have y2:wr.cell? (a_ gv (i*4+2))=some (I_ y.b):=by have:=bT ho cy.2.2.1;rwa [Nat.mul_comm] at this
     have y3:wr.cell? (a_ gv (i*4+3))=some (I_ y.bG):=by have:=bT ho cy.2.2.2;rwa [Nat.mul_comm] at this
     have qm:B_ wr (wr.alloc (c_ #[I_ y.op,I_ y.a,I_ y.b,I_ y.bG] 61)):=mi _;have KA:=bK (hK.below qm);have OA:=bK (bU ho qm di);have YB:Hid (dh (wr.alloc (c_ #[I_ y.op,I_ y.a,I_ y.b,I_ y.bG] 61)) wr.heap.size 61 (vO y)):=hn_ _ _;have TK:Hid ((code++[(⟨2,0,0,0⟩:dY)])++ws.take (i+1)=((code++[(⟨2,0,0,0⟩:dY)])++ws.take i)++[y]):=by show _=_;rw [List.take_add_one,hy];simp [aa_]
     have CL:Hid (((code++[(⟨2,0,0,0⟩:dY)])++ws.take i).length<=1000000):=by show _<=_;simp only [la_,List.length_take,lc_,ln_];omega
     clear hK ho hne cy gy hy qm WN HOX;go_upto_region 9 with (fail);generalize wr.alloc (c_ #[I_ y.op,I_ y.a,I_ y.b,I_ y.bG] 61)=W5 at *;generalize wr.heap.size=gy at *;clear y0 y1 y2 y3;obtain⟨z0,z1,z2,z3⟩:=qY YB.o
     go_wp2_with fail
     refine (qz B gw vX _ y W5 KA.o.wc CL.o).mono ?_
     rintro e' w6 ⟨rfl,vY,lk,wc⟩;have K6:=bK (KA.o.on lk wc);have O6:=bK (lk.rows OA.o OM.o)
     have N6:Hid (∀b,(s_ gv ws.length cw).ownBlock=some b->b≠gw/\some b≠vY.ownBlock):=fun b eb=>by
      refine⟨(OM.o b eb).1,?_⟩;rcases lk.row with r | ⟨g,r,hg⟩
      .rw [r];exact (OM.o b eb).2
      .rw [r];intro e2;have:=oi_ e2;have:=(ol_ OA.o b eb).2;omega
     clear lk wc KA OA z0 z1 z2 z3 YB OM CL;go_wp2;go_roundg (ws.length-(i+1))
     case measure=>omega
     case rel=>exact⟨i+1,vY,by omega,rfl,by go_num,by rw [TK.o];exact K6.o,O6.o,N6.o⟩
    .have d1:=mM i ws.length;have ei:i=ws.length:=by omega
     have TK:Hid ((code++[(⟨2,0,0,0⟩:dY)])++ws.take i=(code++[(⟨2,0,0,0⟩:dY)])++ws):=by show _=_;rw [ei,List.take_length]
     have CL:Hid (((code++[(⟨2,0,0,0⟩:dY)])++ws).length<=1000000):=by show _<=_;simp only [la_,lc_,ln_];omega
     rw [TK.o] at hK;have KX:=bK hK;clear hK ho hne WN HOX OM TK ei
     go_wp2_with fail
     refine (qz B gw vX _ ⟨5,0,0,0⟩ wr KX.o.wc CL.o).mono ?_
     rintro e' w6 ⟨rfl,vY,lk,wc⟩;have FIN:Hid (vB B gw vc (code++dL k) w w6):=⟨vY,KX.o.lk.trans lk,by rw [FC.o];exact wc⟩;clear lk wc KX;go_wp2
     go_end0
     exact⟨rfl,FIN.o⟩
 .by_cases hz:ws.length=0
  .have FC:Hid (code++dL k=((code++[(⟨1,k.rule,0,0⟩:dY)])++ws)++[⟨5,0,0,0⟩]):=by show _=_;unfold dL;rw [HWS.o,if_pos hz,if_neg e];simp
   have dz:=mM (0:Int) (ws.length:Int);have hz2:¬0<ws.length:=by omega
   have LB:=bO K3.o.wc.b;go_upto_region 7 with (fail)
   go_loopg [6,26] ws.length (fun gm _ iv wx=>∃(i:Nat) (vX:V_),i<=ws.length/\gm=ws.length-i/\iv=I_ i/\Ks B gw gk k vc.ownBlock w vX ((code++[(⟨1,k.rule,0,0⟩:dY)])++ws.take i) wx/\wx.ownsRow _ 61 4 (.slice aw ws.length cw) ws.length (dC ws)/\∀b,(Value.slice aw ws.length cw).ownBlock=some b->b≠gw/\some b≠vX.ownBlock)
   case atStart=>exact⟨0,vc1,zl_ _,rfl,rfl,by rw [List.take_zero,List.append_nil];exact K3.o,OW.o,NEW.o⟩
   case round=>
    clear K3 OW NEW;obtain⟨i,vX,il,rfl,rfl,hK,ho,hne⟩:=hrel;have WN:=bK hK;have HOX:=bK ho;have OM:=bK hne;by_cases hi:i<ws.length
    .exact absurd hi (by omega)
    .have d1:=mM i ws.length;have ei:i=ws.length:=by omega
     have TK:Hid ((code++[(⟨1,k.rule,0,0⟩:dY)])++ws.take i=(code++[(⟨1,k.rule,0,0⟩:dY)])++ws):=by show _=_;rw [ei,List.take_length]
     have CL:Hid (((code++[(⟨1,k.rule,0,0⟩:dY)])++ws).length<=1000000):=by show _<=_;simp only [la_,lc_,ln_];omega
     rw [TK.o] at hK;have KX:=bK hK;clear hK ho hne WN HOX OM TK ei
     go_wp2_with fail
     refine (qz B gw vX _ ⟨5,0,0,0⟩ wr KX.o.wc CL.o).mono ?_
     rintro e' w6 ⟨rfl,vY,lk,wc⟩;have FIN:Hid (vB B gw vc (code++dL k) w w6):=⟨vY,KX.o.lk.trans lk,by rw [FC.o];exact wc⟩;clear lk wc KX;go_wp2
     go_end0
     exact⟨rfl,FIN.o⟩
  .have FC:Hid (code++dL k=(((code++[(⟨1,k.rule,0,0⟩:dY)])++[(⟨2,0,0,0⟩:dY)])++ws)++[⟨5,0,0,0⟩]):=by show _=_;unfold dL;rw [HWS.o,if_neg hz,if_neg e];simp
   have dz:=nV (0:Int) (ws.length:Int);have hz2:0<ws.length:=by omega
   go_wp2_with fail
   refine (qz B gw vc1 _ ⟨2,0,0,0⟩ w3 K3.o.wc (by (try simp only [la_,lc_,ln_]);omega)).mono ?_
   rintro e' w4 ⟨rfl,vc4,lk,wc⟩;have K4:=bK (K3.o.on lk wc);have OW4:=bK (lk.rows OW.o NEW.o)
   have Xt:Hid (∀b,(Value.slice aw ws.length cw).ownBlock=some b->b≠gw/\some b≠vc4.ownBlock):=fun b eb=>by
    refine⟨(NEW.o b eb).1,?_⟩;rcases lk.row with r | ⟨g,r,hg⟩
    .rw [r];exact (NEW.o b eb).2
    .rw [r];intro e2;have:=oi_ e2;have:=(ol_ OW.o b eb).2;omega
   clear lk wc K3 OW NEW;have OW:=bK OW4.o;have NEW:=bK Xt.o;clear OW4 Xt;have LB:=bO K4.o.wc.b;go_upto_region 7 with (fail)
   go_loopg [6,26] ws.length (fun gm _ iv wx=>∃(i:Nat) (vX:V_),i<=ws.length/\gm=ws.length-i/\iv=I_ i/\Ks B gw gk k vc.ownBlock w vX (((code++[(⟨1,k.rule,0,0⟩:dY)])++[(⟨2,0,0,0⟩:dY)])++ws.take i) wx/\wx.ownsRow _ 61 4 (.slice aw ws.length cw) ws.length (dC ws)/\∀b,(Value.slice aw ws.length cw).ownBlock=some b->b≠gw/\some b≠vX.ownBlock)
   case atStart=>exact⟨0,vc4,zl_ _,rfl,rfl,by rw [List.take_zero,List.append_nil];exact K4.o,OW.o,NEW.o⟩
   case round=>
    clear K4 OW NEW;obtain⟨i,vX,il,rfl,rfl,hK,ho,hne⟩:=hrel;have WN:=bK hK;have HOX:=bK ho;have OM:=bK hne;by_cases hi:i<ws.length
    .have d1:=nV i ws.length;have wi:=kg i;have ii0:=jg i;have ii1:(i:Int)<ws.length:=by omega
     obtain⟨y,hy⟩:=qG ws i hi;obtain⟨gv,cv,ev,_,_⟩:=dJ ho (by omega);cases ev;have gy:ws.getD i Pu.aS=y:=by rw [gd_,hy];rfl
     have cy:=pQ ws i hi;rw [gy] at cy;have y0:wr.cell? (a_ gv (i*4))=some (I_ y.op):=by have:=bT ho cy.1;rwa [Nat.mul_comm] at this
     have y1:wr.cell? (a_ gv (i*4+1))=some (I_ y.a):=by have:=bT ho cy.2.1;rwa [Nat.mul_comm] at this
     have y2:wr.cell? (a_ gv (i*4+2))=some (I_ y.b):=by have:=bT ho cy.2.2.1;rwa [Nat.mul_comm] at this
     have y3:wr.cell? (a_ gv (i*4+3))=some (I_ y.bG):=by have:=bT ho cy.2.2.2;rwa [Nat.mul_comm] at this
     have qm:B_ wr (wr.alloc (c_ #[I_ y.op,I_ y.a,I_ y.b,I_ y.bG] 61)):=mi _;have KA:=bK (hK.below qm);have OA:=bK (bU ho qm di);have YB:Hid (dh (wr.alloc (c_ #[I_ y.op,I_ y.a,I_ y.b,I_ y.bG] 61)) wr.heap.size 61 (vO y)):=hn_ _ _;have TK:Hid (((code++[(⟨1,k.rule,0,0⟩:dY)])++[(⟨2,0,0,0⟩:dY)])++ws.take (i+1)=(((code++[(⟨1,k.rule,0,0⟩:dY)])++[(⟨2,0,0,0⟩:dY)])++ws.take i)++[y]):=by show _=_;rw [List.take_add_one,hy];simp [aa_]
     have CL:Hid ((((code++[(⟨1,k.rule,0,0⟩:dY)])++[(⟨2,0,0,0⟩:dY)])++ws.take i).length<=1000000):=by show _<=_;simp only [la_,List.length_take,lc_,ln_];omega
     clear hK ho hne cy gy hy qm WN HOX;go_upto_region 9 with (fail);generalize wr.alloc (c_ #[I_ y.op,I_ y.a,I_ y.b,I_ y.bG] 61)=W5 at *;generalize wr.heap.size=gy at *;clear y0 y1 y2 y3;obtain⟨z0,z1,z2,z3⟩:=qY YB.o
     go_wp2_with fail
     refine (qz B gw vX _ y W5 KA.o.wc CL.o).mono ?_
     rintro e' w6 ⟨rfl,vY,lk,wc⟩;have K6:=bK (KA.o.on lk wc);have O6:=bK (lk.rows OA.o OM.o)
     have N6:Hid (∀b,(s_ gv ws.length cw).ownBlock=some b->b≠gw/\some b≠vY.ownBlock):=fun b eb=>by
      refine⟨(OM.o b eb).1,?_⟩;rcases lk.row with r | ⟨g,r,hg⟩
      .rw [r];exact (OM.o b eb).2
      .rw [r];intro e2;have:=oi_ e2;have:=(ol_ OA.o b eb).2;omega
     clear lk wc KA OA z0 z1 z2 z3 YB OM CL;go_wp2;go_roundg (ws.length-(i+1))
     case measure=>omega
     case rel=>exact⟨i+1,vY,by omega,rfl,by go_num,by rw [TK.o];exact K6.o,O6.o,N6.o⟩
    .have d1:=mM i ws.length;have ei:i=ws.length:=by omega
     have TK:Hid (((code++[(⟨1,k.rule,0,0⟩:dY)])++[(⟨2,0,0,0⟩:dY)])++ws.take i=((code++[(⟨1,k.rule,0,0⟩:dY)])++[(⟨2,0,0,0⟩:dY)])++ws):=by show _=_;rw [ei,List.take_length]
     have CL:Hid ((((code++[(⟨1,k.rule,0,0⟩:dY)])++[(⟨2,0,0,0⟩:dY)])++ws).length<=1000000):=by show _<=_;simp only [la_,lc_,ln_];omega
     rw [TK.o] at hK;have KX:=bK hK;clear hK ho hne WN HOX OM TK ei
     go_wp2_with fail
     refine (qz B gw vX _ ⟨5,0,0,0⟩ wr KX.o.wc CL.o).mono ?_
     rintro e' w6 ⟨rfl,vY,lk,wc⟩;have FIN:Hid (vB B gw vc (code++dL k) w w6):=⟨vY,KX.o.lk.trans lk,by rw [FC.o];exact wc⟩;clear lk wc KX;go_wp2
     go_end0
     exact⟨rfl,FIN.o⟩
namespace Pu
def nQ (fQ:List Nat) (b e:Nat) (code:List dY):List dY:=code.mapIdx (fun i x=>if b<=i/\i<e then kT fQ x else x)
theorem yG (fQ:List Nat) (b e:Nat) (code:List dY):(nQ fQ b e code).length=code.length:=by simp [nQ]
theorem rR (fQ:List Nat) (b e:Nat) (code:List dY) (i:Nat):(nQ fQ b e code)[i]?=(code[i]?).map (fun x=>if b<=i/\i<e then kT fQ x else x):=by simp [nQ]
theorem MU (fQ:List Nat) (b:Nat) (code:List dY):nQ fQ b b code=code:=by
 apply List.ext_getElem?;intro i;rw [rR]
 cases code[i]? with
 | none=>rfl
 | some x=>simp only [Option.map_some];rw [if_neg (by omega)]
theorem MR (fQ:List Nat) {b e:Nat} (code:List dY) {x:dY} (hb:b<=e) (hx:code[e]?=some x):nQ fQ b (e+1) code=(nQ fQ b e code).set e (kT fQ x):=by
 have hl:=(ge_.1 hx).1;apply List.ext_getElem?;intro i;rw [rR,List.getElem?_set,yG];by_cases h:e=i
 .subst h;rw [if_pos rfl,if_pos hl,hx];simp [hb]
 .rw [if_neg h,rR]
  cases code[i]? with
  | none=>rfl
  | some y=>
   simp only [Option.map_some];by_cases c:b<=i/\i<e
   .rw [if_pos c,if_pos (by omega)]
   .rw [if_neg c,if_neg (by omega)]
theorem P5 (fQ:List Nat) (b:Nat) (code:List dY):nQ fQ b code.length code=code.take b++(code.drop b).map (kT fQ):=by
 apply List.ext_getElem?;intro i;rw [rR];by_cases c:i<b
 .by_cases d:i<code.length
  .rw [al_ (by simp;omega),List.getElem?_take_of_lt c,gg_ d];simp only [Option.map_some];rw [if_neg (by omega)]
  .rw [gn_ (by omega),ar_ (by simp;omega),gn_ (by simp;omega)];rfl
 .by_cases d:i<code.length
  .rw [ar_ (by simp;omega),gm_,List.getElem?_drop,List.length_take,Nat.min_eq_left (by omega),show b+(i-b)=i by omega,gg_ d];simp only [Option.map_some];rw [if_pos (by omega)]
  .rw [gn_ (by omega),ar_ (by simp;omega),gn_ (by simp;omega)];rfl
end Pu
theorem NJ {B' t1 t2 size' n' gc:Nat} {ys zs:List V_} (h:w.ownsRow B t size v n xs) (hb:dh w g t1 ys) (ho:w.ownsRow B' t2 size' (s_ gc n' cap) n' zs) (h1:t≠t1) (h2:t≠t2):∀k,v.ownBlock=some k->k≠g/\some k≠some gc:=by
 intro k ek;rcases h.2 with ⟨e1,_⟩ | ⟨g',c',cur,e1,_,h4,_⟩
 .rw [e1] at ek;cases ek
 .rw [e1] at ek;have e2:g'=k:=oi_ ek;subst e2;refine⟨fun e=>?_,fun e=>?_⟩
  .subst e;unfold dh at hb;rw [hb] at h4;cases h4;exact h1 rfl
  .have e3:=oi_ e;subst e3;rcases ho.2 with ⟨e5,_⟩ | ⟨g6,c6,agC,e5,_,h6,_⟩
   .cases e5
   .cases e5
    rw [h6] at h4;cases h4;exact h2 rfl
theorem Np (h:w.ownsRow B t size (s_ g n cap) n xs) (j:Nat):w.frozen? (a_ g j)=false:=by
 rcases h.2 with ⟨e5,_⟩ | ⟨g6,c6,agC,e5,_,h6,_⟩
 .cases e5
 .cases e5
  have hb:dh w g t agC.toList:=by unfold dh;rw [h6]
  exact bL hb j
theorem Zp (B gw bg:Nat) (vc vs:V_) (code:List dY) (fQ:List Nat) (w:W_) (h:Wc B gw vc code w) (hs:ed w vs fQ) (hl:code.length<=1000000) (hb:bg<=code.length) (hpos:0<code.length) (hsl:fQ.length<=1000) (hst:∀(i:Nat) (x:dY),bg<=i->code[i]?=some x->x.op=3->∃t:Nat,x.bG=(t:Int)/\t<fQ.length) :
  C_ 91 #[p_ gw,I_ bg,vs] w (fun e w'=>e=.returned (.tuple #[])/\vB B gw vc (code.take bg++(code.drop bg).map (kT fQ)) w w'):=by
 obtain⟨gc,cc,evc,_,_⟩:=dJ h.own hpos;subst evc;obtain⟨av,cv,rfl,_,_,_⟩:=hs.form;have H0:=bK h;have HS:=bK hs;have HST:=bK hst;clear h hs hst;go_enter Tryz.func91,Tryz.ntmps91
 go_wp2_with fail
 go_loopg [6] (code.length-bg) (fun gk iv wx=>∃(i:Nat),bg<=i/\i<=code.length/\gk=code.length-i/\iv=I_ i/\Wc B gw (s_ gc code.length cc) (nQ fQ bg i code) wx/\Lk gw (some gc) (some gc) w wx)
 case atStart=>exact⟨bg,di,hb,rfl,rfl,by rw [MU];exact H0.o,Lk.refl _ _ _⟩
 case round=>
  obtain⟨i,i1,i2,rfl,rfl,hW,hL⟩:=hrel;have YL:=yG fQ bg i code;have c0:=bP 0 hW.b rfl;by_cases hi:i<code.length
  .have d1:=nV i code.length;have wi:=kg i;have ii0:=jg i;have ii1:(i:Int)<code.length:=by omega
   obtain⟨x,hx⟩:=qG code i hi;have gx:(nQ fQ bg i code)[i]?=some x:=by rw [rR,hx];simp
   have NX:=bK (MR fQ code i1 hx);have cy:=pQ (nQ fQ bg i code) i (by omega);rw [gd_,gx] at cy;simp only [Option.getD_some] at cy;have ZO:=hW.own;rw [YL] at ZO;have y0:wr.cell? (a_ gc (i*4))=some (I_ x.op):=by have:=bT ZO cy.1;rwa [Nat.mul_comm] at this
   have y3:wr.cell? (a_ gc (i*4+3))=some (I_ x.bG):=by have:=bT ZO cy.2.2.2;rwa [Nat.mul_comm] at this
   have HW:=bK hW;have HL:=bK hL;have GX:=bK gx;have HX:=bK hx;have adT:=bK ZO;clear hW hL cy gx hx ZO;by_cases e:x.op=3
   .obtain⟨t,ht,tl⟩:=HST.o i x i1 HX.o e;rw [e] at y0;rw [ht] at y3;have NE:=NJ HS.o H0.o.b H0.o.own (by decide) (by decide);have SW:=HL.o.rows HS.o (fun k ek=>NE k ek);obtain⟨gs,es,_,sc⟩:=ed.some (l:=fQ) SW (by omega);subst es;obtain⟨z,hz⟩:=qG fQ t tl;have sz:=sc t z hz;have n1:=NE gs rfl;have it0:=jg t;have it1:(t:Int)<fQ.length:=by omega
    have fz:wr.frozen? (a_ gc (i*4+3))=false:=Np adT.o _;have gn:gw≠gc:=fun e'=>HW.o.ne HW.o.b (by decide) (by rw [e'];rfl)
    have S1:Hid (wr.drew.cell? (a_ gw 0)=some (s_ gc code.length cc)/\wr.drew.cell? (a_ gs t)=some (I_ z)):=⟨c0,sz⟩
    have LI:kT fQ x=⟨3,x.a,x.b,(z:Int)⟩:=by unfold kT;rw [if_pos e,ht,tn_,gd_,hz];cases x;simp only at e;subst e;rfl
    have g9:=gs_ wr gc (i*4+3) (I_ z);have S2:Hid ((wr.setCell (a_ gc (i*4+3)) (I_ z)).drew.cell? (a_ gw 0)=some (s_ gc code.length cc)/\(wr.setCell (a_ gc (i*4+3)) (I_ z)).drew.cell? (a_ gs t)=some (I_ z)):=by refine⟨bM (j:=0) (bQ HW.o.b g9 (fun e'=>gn (oi_ e'))) rfl,?_⟩;exact (World.cell?_setCell_other _ _ _ _ (by intro e';cases e';exact n1.2 rfl)).trans sz
    have W9:Hid (Wc B gw (s_ gc code.length cc) (nQ fQ bg (i+1) code) (wr.setCell (a_ gc (i*4+3)) (I_ z)).drew):=by
     have b9:=bQ HW.o.b g9 (fun e'=>gn (oi_ e'));refine⟨b9,?_,HW.o.lo⟩;have o9:=World.ownsRow.drew (JG (j:=i*4+3) (u:=I_ z) adT.o);rw [yG,NX.o,LI];have cgx:Pu.aO (nQ fQ bg i code) i=x:=by unfold Pu.aO;rw [gd_,GX.o];rfl
     have:=(Js (nQ fQ bg i code) i (by omega) ⟨3,x.a,x.b,(z:Int)⟩).2.2.1 (by rw [cgx];exact e.symm) (by rw [cgx]) (by rw [cgx]);rw [<-this];exact o9
    have L9:Hid (Lk gw (some gc) (some gc) w (wr.setCell (a_ gc (i*4+3)) (I_ z)).drew):=HL.o.trans ⟨g9.os,g9.tape,g9.output,g9.size,fun k hk _ h2=>g9.block k hk h2,.inl rfl⟩;clear NE SW sc hz LI g9 YL HW HL adT NX GX HX ht
    go_wp2_with fail
    refine wd_ (S:=fun w'=>w'.cell? (a_ gw 0)=some (s_ gc code.length cc)/\w'.cell? (a_ gs t)=some (I_ z)) (by kernel_rfl) S1.o (fun dF=>?_);refine bW 0 ?_
    refine bW 1 ?_
    refine bW 2 ?_
    refine bW 3 ?_
    refine bW 4 ?_
    refine bW 5 ?_
    refine bW 6 ?_
    refine bW 7 ?_
    refine bW 8 ?_
    refine bW 9 ?_
    refine bW 10 ?_
    refine bW 11 ?_
    refine bW 12 ?_
    refine fq 13 (fun K hK=>?_)
    go_simp
    refine hK.out _ _ dF (fun fV=>?_);clear hK K
    try simp only [nU,Act.put]
    refine bW 14 ?_
    refine bW 15 ?_
    refine bW 16 ?_
    refine bW 17 ?_
    refine fq 18 (fun K hK=>?_)
    go_simp
    refine hK.out _ _ S2.o (fun lh=>?_);clear hK K;refine wpAnyH_done (by kernel_rfl) ?_ _;go_wp2;go_roundg (code.length-(i+1))
    case measure=>omega
    case rel=>exact⟨i+1,by omega,by omega,rfl,by go_num,W9.o,L9.o⟩
   .have e1:(x.op == 3)=false:=by simp [e]
    have e3:decide (x.op=3)=false:=dn_ e
    have SAME:Hid (nQ fQ bg (i+1) code=nQ fQ bg i code):=by
     show _=_;rw [NX.o];have:kT fQ x=x:=by unfold kT;rw [if_neg e]
     rw [this]
     exact List.ext_getElem? (fun j=>by
      rw [List.getElem?_set];split
      .rename_i hj
       subst hj;rw [if_pos (by rw [YL];exact hi)];exact GX.o.symm
      .rfl)
    clear YL;go_wp2;go_roundg (code.length-(i+1))
    case measure=>omega
    case rel=>exact⟨i+1,by omega,by omega,rfl,by go_num,by rw [SAME.o];exact HW.o,HL.o⟩
  .have d1:=mM i code.length;have e:i=code.length:=by omega
   have FIN:Hid (vB B gw (s_ gc code.length cc) (code.take bg++(code.drop bg).map (kT fQ)) w wr):=by refine⟨s_ gc code.length cc,hL,?_⟩;rw [<-P5,<-e];have:=hW;rw [e] at this |-;exact this
   clear hW hL e YL;go_wp2
   go_end0
   exact⟨rfl,FIN.o⟩
def kdZ:List V_:=I_ 0::List.replicate 256 (I_ 0)
theorem uW:kdZ.length=257:=by unfold kdZ;rw [lc_,lp_]
theorem C9:(Tryz.prog.info? 148).map (fun i=>(i.zero,i.size,i.bytes))=some (some (.agg kdZ.toArray),257,2056):=by kernel_rfl
theorem Zd (w:W_):(zeroValue 148).run Tryz.prog w=.ok (.agg kdZ.toArray) w:=by obtain⟨i,h1,h2,_⟩:=ip_ C9;simp [zeroValue,typeInfo,go_sem,h1,h2]
theorem Jv:(Tryz.prog.info? 148).map (·.size)=some 257:=by obtain⟨i,h1,_,h3,_⟩:=ip_ C9;rw [h1,Option.map_some,h3]
theorem Zc (r:Int):Tryz.prog.built 148 [(0,I_ r)]=some ((I_ r)::List.replicate 256 (I_ 0)).toArray:=by kernel_rfl
theorem ab3 (r:Int):vP ⟨r,Pu.jU⟩=(I_ r)::List.replicate 256 (I_ 0):=by unfold vP;rw [adM]
theorem oN {k:aA} (h:k.longer.length=256):(vP k).length=257:=by simp [vP,gX,h]
theorem S9 (k:aA):∀u∈vP k,u.oneCell'=true:=by
 intro u hu;rcases mm_.1 hu with e | e
 .rw [e];rfl
 .simp only [bV,List.mem_map] at e;obtain⟨z,_,rfl⟩:=e;rfl
def zC (K:List aA):List V_:=K.flatMap vP
theorem Mw (a b:List aA):zC (a++b)=zC a++zC b:=by simp [zC]
theorem Ze {K:List aA} (h:∀k∈K,k.longer.length=256) {p j:Nat} {k:aA} (hp:K[p]?=some k) (hj:j<257):(zC K)[p*257+j]?=(vP k)[j]?:=by
 induction K generalizing p with
 | nil=>simp at hp
 | cons z r ih=>
  have hz:=oN (h z (ms_ ..));show (vP z++zC r)[p*257+j]?=_
  cases p with
  | zero=>rw [List.getElem?_cons_zero] at hp;cases hp;rw [Nat.zero_mul,Nat.zero_add,al_ (by omega)]
  | succ p=>rw [cs_] at hp;rw [ar_ (by omega),hz,show (p+1)*257+j-257=p*257+j by omega];exact ih (fun t ht=>h t (mc_ _ ht)) hp
structure Kk (B:Nat) (W:W_) (v:V_) (K:List aA):Prop where
 own:W.ownsRow B 148 257 v K.length (zC K)
 len:∀k∈K,k.longer.length=256
theorem Kk.below {W':W_} {K:List aA} (h:Kk B W v K) (hb:B_ W W'):Kk B W' v K:=⟨bU h.own hb di,h.len⟩
theorem Kk.get {gs:Nat} {K:List aA} (h:Kk B W (s_ gs n cap) K) {p:Nat} {k:aA} (hp:K[p]?=some k):n=K.length/\W.rangeAt gs (p*257) (vP k):=by
 have hl:=(ge_.1 hp).1;obtain⟨g,c,e,_,_⟩:=dJ h.own (by omega);cases e
 refine⟨rfl,fun j u hu=>?_⟩;have hj:j<257:=by have:=(ge_.1 hu).1;rwa [oN (h.len k (mg_ hp))] at this
 have hc:=Ze h.len hp hj;rw [hu] at hc;exact bT h.own hc
theorem Bj {ops:Array Oper} {rest:List Oper} {o:Oper} {a:Act} {Q:Exit->Act->W_->Prop} (hgd:o.guard=none) (s x:Operand)
  (ho:o.op=.call { callee:=.builtin .append,args:=#[s,x],argTypes:=#[88,88] }) (base:Nat) (v:V_) (K:List aA) (hs:a.eval s=v) (fH:w.ownsRow base 148 257 v K.length (zC K))
  (gx:Nat) (k:aA) (hx:a.eval x=s_ gx 1 1) (hb:dh w gx 148 (vP k)) (hk:k.longer.length=256) (kU:K.length<=1000) (nX:base<=w.heap.size)
  (h:∀v' w',w'.ownsRow base 148 257 v' (K++[k]).length (zC (K++[k]))->w.grownBy w' v.ownBlock->wpList Tryz.prog ops Q rest (a.put o.dst v') w'):wpList Tryz.prog ops Q (o::rest) a w:=by
 obtain⟨il,hil,hl0,hl1,hl2⟩:=ip_ C9;refine wo_ _ hgd s x 88 ho base 148 il _ 257 2056 Tryz.underlying88 hil hl0 hl1 hl2 (by simp [Value.cells,uW]) (by decide) v K.length (zC K) hs fH (a_ gx 0) 1 1 (vP k) hx (by rw [oN hk]) ?_ (S9 k) (by unfold maxLen;omega) (by omega) nX ?_
 .intro j y hy;have:=bM hb hy;simpa [add_eq] using this
 .intro v' w' h1 h2 _;refine h v' w' ?_ h2;rw [la_,Mw];have e:zC [k]=vP k:=by simp [zC]
  rw [e];exact h1
theorem Wl {ss:List aN} (h:qB B W v ss):qB 0 W v ss:=by obtain⟨ts,h1,h2,h3,h4⟩:=h;exact⟨ts,dH h1 (zl_ _),h2,h3,h4⟩
structure Fa (w:W_) (gs cap:Nat) (vr:V_) (ss:List aN) (rs:List Int) (W:W_):Prop where
 be:B_ w W
 b:dh W w.heap.size 139 [s_ gs ss.length cap,vr]
 r:W.ownsRow w.heap.size 3 1 vr rs.length (bY rs)
section
variable {w W W' w2:W_} {gs cap:Nat} {vr:V_} {ss:List aN} {rs:List Int}
theorem Fa.below (h:Fa w gs cap vr ss rs W) (hb:B_ W W'):Fa w gs cap vr ss rs W':=
 ⟨iT h.be hb,bN h.b hb (bO h.b),bU h.r hb di⟩
theorem Fa.add (h:Fa w gs cap vr ss rs W) {r:Int} {v2:V_} (ho:w2.ownsRow w.heap.size 3 1 v2 (rs.length+1) (bY rs++[I_ r])) (hg:W.grownBy w2 vr.ownBlock) :
  Fa w gs cap v2 ss (rs++[r]) (w2.setCell (a_ w.heap.size 1) v2):=by
 have b2:=dR h.r h.b (by decide) hg;have g2:=gs_ w2 w.heap.size 1 v2;have Lh:B_ w w2:=h.be.grown hg h.be.size (fun k e=>(ol_ h.r k e).1);refine⟨Lh.grown g2 Lh.size (fun k e=>by cases e;exact di),cO b2 1 _,?_⟩
 have:w2.ownsRow w.heap.size 3 1 v2 (rs++[r]).length (bY (rs++[r])):=by
  rw [la_];have e:bY (rs++[r])=bY rs++[I_ r]:=by simp [bY]
  rw [e];exact ho
 exact dA this b2 (by decide) g2
theorem Fa.md (h:Fa w gs cap vr ss rs W) (hs:qB 0 W (s_ gs ss.length cap) ss) (hn:rs.length=ss.length):Md 0 w.heap.size gs cap vr ss rs W:=⟨h.b,hs,dH h.r (zl_ _),hn⟩
end
namespace Pu
theorem JP (ls:List aD) (ss:List aN) {k:Nat} {x:aN} (h:ss[k]?=some x):(dE ls ss).take (k+1)=(dE ls ss).take k++[fU ls x.places]:=by rw [List.take_add_one];unfold dE;rw [gm_,h];rfl
theorem nk (ls:List aD) (ss:List aN):(dE ls ss).length=ss.length:=by simp [dE]
end Pu
end Go.Proofs.YtmccnmgaoppogaaGreat
