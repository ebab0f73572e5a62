import Derived.Test.YtmccnmgaoppogaaGreatE20A
namespace Go.Proofs.YtmccnmgaoppogaaGreat
open Pu
set_option linter.all false
set_option maxRecDepth 100000
set_option maxHeartbeats 8000000
open Go.RowKit
variable {B B' base g i k n size t:Nat} {W W' w:W_} {v:V_} {xs:List V_} {s:Y_} {ps:List Pu.aJ} {ls:List aD} {all:List aC}
def kC (q:aD × V_ × V_):List V_:=[I_ q.1.mode,I_ q.1.emit,I_ q.1.act,I_ q.1.md,.bool q.1.pt.empty,q.2.1,q.2.2,.bool q.1.down]
def Ta (qs:List (aD × V_ × V_)):List V_:=qs.flatMap kC
theorem P7 (a b:List (aD × V_ × V_)):Ta (a++b)=Ta a++Ta b:=by simp [Ta]
theorem acd {qs:List (aD × V_ × V_)} {p j:Nat} {q:aD × V_ × V_} (h:qs[p]?=some q) (hj:j<8):(Ta qs)[p*8+j]?=(kC q)[j]?:=by
 induction qs generalizing p with
 | nil=>simp at h
 | cons z r ih=>
  show (kC z++Ta r)[_]?=_;have hz:(kC z).length=8:=rfl
  cases p with
  | zero=>rw [List.getElem?_cons_zero] at h;cases h;rw [Nat.zero_mul,Nat.zero_add,al_ (by omega)]
  | succ p=>rw [cs_] at h;rw [ar_ (by omega),hz,show (p+1)*8+j-8=p*8+j by omega];exact ih h
def Lm (B:Nat) (W:W_) (v:V_) (ls:List aD):Prop:=∃qs,W.ownsRow B 85 8 v qs.length (Ta qs)/\qs.map (·.1)=ls/\∀q∈qs,(∃a n c,q.2.1=.slice a n c)/\(∃a n c,q.2.2=.slice a n c)/\ed W q.2.1 q.1.pt.first/\ed W q.2.2 q.1.pt.last
theorem Rk.rows {w':W_} (h:Rk B w w') (hn:w.ownsRow B' t size v n xs) (h1:t≠184) (h2:t≠235):w'.ownsRow B' t size v n xs:=by
 refine⟨hn.1,?_⟩;rcases hn.2 with h0 | ⟨g,cap,cur,h3,h4,h5,h6⟩
 .exact .inl h0
 .exact .inr ⟨g,cap,cur,h3,h4,h.jy g _ _ _ h5 h1 h2,h6⟩
theorem fI {w':W_} {t' size' n':Nat} {v':V_} {ys:List V_} (h:w.ownsRow B t size v n xs) (h':w.ownsRow B' t' size' v' n' ys) (ht:t≠t') (hg:w.grownBy w' v'.ownBlock):w'.ownsRow B t size v n xs:=by
 refine⟨h.1,?_⟩;rcases h.2 with h0 | ⟨g,cap,cur,h1,h2,h3,h4⟩
 .exact .inl h0
 .refine .inr ⟨g,cap,cur,h1,h2,?_,h4⟩;have hl:=(Array.getElem?_eq_some_iff.1 h3).1
  rw [hg.block g hl (fun e=>by
   rcases h'.2 with ⟨e1,_⟩ | ⟨g',cap',cur',e1,_,e3,_⟩
   .rw [e1] at e;cases e
   .rw [e1] at e;cases e
    rw [h3] at e3;cases e3
    exact ht rfl)]
  exact h3
section
variable {B B':Nat} {W W':W_} {v:V_} {ls:List aD}
theorem Lm.rk (h:Lm B W v ls) (hk:Rk B' W W'):Lm B W' v ls:=by obtain⟨qs,h1,h2,h3⟩:=h;exact⟨qs,hk.rows h1 (by decide) (by decide),h2,fun q hq=>⟨(h3 q hq).1,(h3 q hq).2.1,hk.jF (h3 q hq).2.2.1,hk.jF (h3 q hq).2.2.2⟩⟩
theorem Lm.below (h:Lm B W v ls) (hb:B_ W W'):Lm B W' v ls:=h.rk (.below di hb)
theorem Lm.len (h:Lm B W v ls):∃a c,v=.slice a ls.length c/\ls.length<=c/\c<=9223372036854775807:=by
 obtain⟨qs,h1,h2,_⟩:=h;have e:ls.length=qs.length:=by rw [<-h2,lm_]
 rw [e];exact dS h1
end
theorem Ip:(Tryz.prog.info? 85).map (fun i=>(i.zero,i.size,i.bytes))=some (some (.agg (rT 0 0 0 0 false none 0 0 none 0 0 false).toArray),8,96):=by kernel_rfl
theorem rV (W:W_) (e size:Nat):(W.alloc (c_ #[] e)).ownsRow W.heap.size e size (s_ W.heap.size 0 0) 0 []:=
 ⟨by simp,.inr ⟨W.heap.size,0,#[],rfl,di,hn_ W _,di,by unfold maxLen;omega,by simp,by simp⟩⟩
theorem Bo {ops:Array Oper} {rest:List Oper} {o:Oper} {a:Act} {Q:Exit->Act->W_->Prop} (hgd:o.guard=none) (s x:Operand)
  (ho:o.op=.call { callee:=.builtin .append,args:=#[s,x],argTypes:=#[75,75] }) (base:Nat) (v:V_) (qs:List (aD × V_ × V_)) (hs:a.eval s=v) (fH:w.ownsRow base 85 8 v qs.length (Ta qs))
  (gx:Nat) (q:aD × V_ × V_) (hx:a.eval x=s_ gx 1 1) (hb:dh w gx 85 (kC q)) (hq:∀u∈kC q,u.oneCell'=true) (kU:qs.length<=1000) (nX:base<=w.heap.size)
  (h:∀v' w',w'.ownsRow base 85 8 v' (qs++[q]).length (Ta (qs++[q]))->w.grownBy w' v.ownBlock->wpList Tryz.prog ops Q rest (a.put o.dst v') w'):wpList Tryz.prog ops Q (o::rest) a w:=by
 obtain⟨il,hil,hl0,hl1,hl2⟩:=ip_ Ip;refine wo_ _ hgd s x 75 ho base 85 il _ 8 96 Tryz.underlying75 hil hl0 hl1 hl2 rfl (by decide) v qs.length (Ta qs) hs fH (a_ gx 0) 1 1 (kC q) hx rfl ?_ hq (by unfold maxLen;omega) (by omega) nX ?_
 .intro j y hy;have:=bM hb hy;simpa [add_eq] using this
 .intro v' w' h1 h2 _;refine h v' w' ?_ h2;rw [la_,P7];have e:Ta [q]=kC q:=by simp [Ta]
  rw [e];exact h1
theorem Zq {x:aD} {a b:Option Addr} {m c:Nat}:∀u∈kC (x,.slice a m c,.slice b n k),u.oneCell'=true:=by intro u hu;simp [kC] at hu;rcases hu with rfl | rfl | rfl | rfl | rfl | rfl | rfl | rfl <;> rfl
theorem Rk.YF {w1 w2:W_} (h:Rk B w w1) (ho:w1.ownsRow base t size v n xs) (hb:w.heap.size<=base) (h2:B<=w.heap.size) (hg:w1.grownBy w2 v.ownBlock):Rk B w w2:=by refine⟨h.lo.grown hg (lt_ h2 h.lo.size) (fun k e=>by have:=(ol_ ho k e).1;omega),fun k cs t' fr hk a b=>?_⟩;have hl:=(Array.getElem?_eq_some_iff.1 hk).1;have:=h.jy k cs t' fr hk a b;rw [hg.block k (Nat.lt_of_lt_of_le hl h.lo.size) (fun e=>by have:=(ol_ ho k e.symm).1;omega)];exact this
theorem Rd.YM {d:Bool} {vp:V_} {qs:List (Pu.aJ × V_)} (h:Rd B g s i ps d vp qs W) (ho:W.ownsRow base t size v n xs) (h1:t≠184) (h2:t≠235) (h3:t≠3) (hg:W.grownBy W' v.ownBlock):Rd B g s i ps d vp qs W':=
 ⟨dR ho h.rb (fun e=>h1 e.symm) hg,h.up,fI h.own ho (fun e=>h2 e.symm) hg,h.ps,fun q hq=>fI (h.nx q hq) ho (fun e=>h3 e.symm) hg⟩
theorem Lm.add {v':V_} {qs:List (aD × V_ × V_)} {x:aD} {a b:Option Addr} {m c:Nat} (ho:W.ownsRow base 85 8 v qs.length (Ta qs)) (hm:qs.map (·.1)=ls) (hn:∀q∈qs,(∃a n c,q.2.1=.slice a n c)/\(∃a n c,q.2.2=.slice a n c)/\ed W q.2.1 q.1.pt.first/\ed W q.2.2 q.1.pt.last)
  (n1:ed W (.slice a m c) x.pt.first) (n2:ed W (.slice b n k) x.pt.last) (ho':W'.ownsRow base 85 8 v' (qs++[(x,Value.slice a m c,Value.slice b n k)]).length (Ta (qs++[(x,Value.slice a m c,Value.slice b n k)]))) (hg:W.grownBy W' v.ownBlock):Lm base W' v' (ls++[x]):=by
 refine⟨_,ho',by simp [hm],fun q hq=>?_⟩;rcases ma_.1 hq with h | h
 .exact⟨(hn q h).1,(hn q h).2.1,fI (hn q h).2.2.1 ho (by decide) hg,fI (hn q h).2.2.2 ho (by decide) hg⟩
 .simp at h;subst h;exact⟨⟨_,_,_,rfl⟩,⟨_,_,_,rfl⟩,fI n1 ho (by decide) hg,fI n2 ho (by decide) hg⟩
def adZ (B g:Nat) (s:Y_) (w:W_) (e:Ending) (w':W_):Prop:=
 (∃all v d,sM s 0 [] all/\e=.returned (.tuple #[v,.bool true])/\Lm w.heap.size w' v (cB all).1/\Rk B w w'/\He B g s s.size (cB all).2 d w')\/
 (∃k ps' d',vZ s 0 0 k/\e=.returned (.tuple #[n_,.bool false])/\Rk B w w'/\He B g s k ps' d' w')
structure LnI (B g:Nat) (s:Y_) (w:W_) (k:Nat) (ls:List aC) (v:V_) (W:W_):Prop where
 lm:Lm w.heap.size W v (cB ls).1
 rd:∃d,He B g s k (cB ls).2 d W
 rk:Rk B w W
 kl:k<=s.size
 pl:(cB ls).2.length<=k
 yes:∀all,sM s k ls all->sM s 0 [] all
 no:∀k',vZ s k ls.length k'->vZ s 0 0 k'
 n:ls.length<16
theorem rC (ls:List aC) (x:aC):cB (ls++[x])=Bw (cB ls) x:=by simp [cB]
theorem Ho (ls:List aC):(cB ls).1.length=ls.length:=(iV ls).n
namespace Pu
theorem Hd.le {s:Y_} {i k:Nat} {x:aC} (h:Hd s i k x):i+x.re.leaves<=k/\i<k/\k<=s.size:=by
 cases h with
 | mk h1 h2 h3 h4 h5=>have a:=h3.leaves;have b:=h5.le;simp only [aH.lv] at a;simp only;omega
end Pu
theorem Vs (B g:Nat) (s:Y_) (d:Bool) (w:W_) (h:He B g s 0 [] d w) (hs:s.size<=400) :
  C_ 81 #[p_ g] w (adZ B g s w):=by
 obtain⟨il,hil,hl0,hl1,hl2⟩:=ip_ Ip;have BL:=h.lt
 have I0:Hid (LnI B g s w 0 [] (s_ w.heap.size 0 0) (w.alloc (c_ #[] 85))):=⟨⟨[],rV _ _ _,rfl,fun q hq=>by simp at hq⟩,⟨d,h.below (mi _)⟩,.alloc BL _,zl_ _,zl_ _,fun _ k=>k,fun _ k=>k,by decide⟩
 clear h;go_enter Tryz.func81,Tryz.ntmps81
 go_wp2_with fail
 go_loopg [4,5,6] s.size (fun gk v _ _ wx=>∃k ls,gk=s.size-k/\LnI B g s w k ls v wx)
 case atStart=>exact⟨0,[],rfl,I0.o⟩
 case round=>
  clear I0;obtain⟨k,ls,rfl,hI⟩:=hrel;obtain⟨d1,rd1⟩:=hI.rd;have LN:=bK (Zo B g k s _ d1 wr rd1 (iV ls).ok hI.pl hI.kl hs);have HI:=bK hI;have kl:=hI.kl;have nl16:=hI.n;clear hI rd1
  go_wp2_with fail
  refine LN.o.mono ?_
  clear LN;rintro e w1 (⟨k1,x,af,mf,cf,al,nl,cl,hL,rfl,n1,n2,rk1,rd1⟩ | ⟨k1,mode,em,act,md,c,af,mf,cf,al,nl,cl,dn,ps',d',hF,rfl,rk1,rd1⟩)
  rotate_left
  .have hb:=(Br_ w1.heap.size w1).alloc di (c_ (rT mode em act md c af mf cf al nl cl dn).toArray 85);have KF:Hid (Rk B w (w1.alloc (c_ (rT mode em act md c af mf cf al nl cl dn).toArray 85))):=(HI.o.rk.trans rk1).trans (.below rd1.lt hb);have RF:=bK (rd1.below hb);have FF:=bK (HI.o.no _ (.here hF));clear hb rk1 rd1 hF HI;simp only [rT] at KF RF;simp only [rT];go_wp2
   go_ret2
   exact .inr ⟨_,_,_,FF.o,rfl,KF.o,RF.o⟩
  .have hb:=(Br_ w1.heap.size w1).alloc di (c_ (rT x.mode x.emit x.act x.md (Pu.part x.re (cB ls).2).1.empty af mf cf al nl cl x.down).toArray 85);have BX:dh (w1.alloc (c_ (rT x.mode x.emit x.act x.md (Pu.part x.re (cB ls).2).1.empty af mf cf al nl cl x.down).toArray 85)) w1.heap.size 85 (rT x.mode x.emit x.act x.md (Pu.part x.re (cB ls).2).1.empty af mf cf al nl cl x.down):=hn_ _ _;have lm2:=(HI.o.lm.rk rk1).below hb;have K2:Hid (Rk B w (w1.alloc (c_ (rT x.mode x.emit x.act x.md (Pu.part x.re (cB ls).2).1.empty af mf cf al nl cl x.down).toArray 85))):=(HI.o.rk.trans rk1).trans (.below rd1.lt hb);have R2:=bK (rd1.below hb);have N1:=bK (n1.below hb);have N2:=bK (n2.below hb);have HL:=bK hL;have kb:=hL.le;have pl0:=HI.o.pl;have pln:=gL x.re (cB ls).2;clear hb rk1 rd1 n1 n2 hL;obtain⟨X,hX⟩:∃X,X=x.lp (Pu.part x.re (cB ls).2).1:=⟨_,rfl⟩;have eC:rT x.mode x.emit x.act x.md (Pu.part x.re (cB ls).2).1.empty af mf cf al nl cl x.down=kC (X,.slice af mf cf,.slice al nl cl):=by rw [hX];rfl
   have N1':Hid (ed (w1.alloc (c_ (rT x.mode x.emit x.act x.md (Pu.part x.re (cB ls).2).1.empty af mf cf al nl cl x.down).toArray 85)) (.slice af mf cf) X.pt.first):=by rw [hX];exact N1.o
   have N2':Hid (ed (w1.alloc (c_ (rT x.mode x.emit x.act x.md (Pu.part x.re (cB ls).2).1.empty af mf cf al nl cl x.down).toArray 85)) (.slice al nl cl) X.pt.last):=by rw [hX];exact N2.o
   have HX:=bK hX;clear N1 N2 hX;rw [eC] at BX lm2 K2 R2 N1' N2';rw [eC];clear eC;obtain⟨qs,own,hm,hn⟩:=lm2;have qn:qs.length=ls.length:=by rw [<-Ho ls,<-hm,lm_]
   have OWN:=bK own;have HM:=bK hm;have HN:=bK hn;have BX:=bK BX;obtain⟨av,cv,rfl,_,_⟩:=dS own;clear own hm hn;have szw:=K2.o.lo.size;simp only [kC] at BX K2 R2 N1' N2' OWN HN;simp only [kC];go_upto_region 5 with (fail);generalize w1.alloc (c_ #[I_ X.mode,I_ X.emit,I_ X.act,I_ X.md,.bool X.pt.empty,.slice af mf cf,.slice al nl cl,.bool X.down] 85)=W2 at *;generalize w1.heap.size=gB at *;have b0:=bP 0 BX.o rfl;have b1:=bP 1 BX.o rfl;have b2:=bP 2 BX.o rfl;have b3:=bP 3 BX.o rfl;have b4:=bP 4 BX.o rfl;have b5:=bP 5 BX.o rfl;have b6:=bP 6 BX.o rfl;have b7:=bP 7 BX.o rfl;have hb3:=(Br_ W2.heap.size W2).alloc di (c_ (kC (X,.slice af mf cf,.slice al nl cl)).toArray 85);have K3:Hid (Rk B w (W2.alloc (c_ (kC (X,.slice af mf cf,.slice al nl cl)).toArray 85))):=K2.o.trans (.below R2.o.lt hb3);have R3:=bK (R2.o.below hb3);have N1:=bK (N1'.o.below hb3);have N2:=bK (N2'.o.below hb3);have Xu:=bK (bU OWN.o hb3 di);have HN3:Hid (∀q∈qs,(∃a n c,q.2.1=.slice a n c)/\(∃a n c,q.2.2=.slice a n c)/\ed (W2.alloc (c_ (kC (X,.slice af mf cf,.slice al nl cl)).toArray 85)) q.2.1 q.1.pt.first/\ed (W2.alloc (c_ (kC (X,.slice af mf cf,.slice al nl cl)).toArray 85)) q.2.2 q.1.pt.last):=fun q hq=>⟨(HN.o q hq).1,(HN.o q hq).2.1,(HN.o q hq).2.2.1.below hb3,(HN.o q hq).2.2.2.below hb3⟩
   have BN:Hid (dh (W2.alloc (c_ (kC (X,.slice af mf cf,.slice al nl cl)).toArray 85)) W2.heap.size 85 (kC (X,.slice af mf cf,.slice al nl cl))):=hn_ _ _;have sz3:=K3.o.lo.size;clear hb3 K2 R2 N1' N2' OWN HN;go_upto_region 6 with (at_builtin;refine Bo rfl (.tmp 15) (.tmp 17) rfl w.heap.size _ qs rfl Xu.o W2.heap.size (X,.slice af mf cf,.slice al nl cl) rfl BN.o Zq (by omega) sz3 ?_;intro v4 w4 uE nO)
   have L4:Hid (Lm w.heap.size w4 v4 (cB (ls++[x])).1):=by have:=Lm.add Xu.o HM.o HN3.o N1.o N2.o uE nO;rw [HX.o] at this;rw [rC];exact this
   have K4:=bK (K3.o.YF Xu.o di BL nO);have R4:Hid (He B g s k1 (cB (ls++[x])).2 x.down w4):=by obtain⟨vp,qs',rd⟩:=R3.o;rw [rC];exact⟨vp,qs',rd.YM Xu.o (by decide) (by decide) (by decide) nO⟩
   have PL4:Hid ((cB (ls++[x])).2.length<=k1):=by rw [rC];show (Pu.part x.re (cB ls).2).2.length<=k1;omega
   obtain⟨a4,c4,rfl,_,_⟩:=dS uE;have vl:(qs++[(X,Value.slice af mf cf,Value.slice al nl cl)]).length=ls.length+1:=by simp [qn]
   rw [vl] at L4;rw [vl];clear uE nO Xu HM HN3 N1 N2 K3 R3 BN vl b0 b1 b2 b3 b4 b5 b6 b7 BX hil hl0 hl1 hl2 szw sz3;obtain⟨vp4,qs4,rd4⟩:=R4.o;have c0:=bP 0 rd4.rb rfl;have c1:=bP 1 rd4.rb rfl;clear rd4;by_cases hk:k1=s.size
   .have e1:((k1:Int) == (s.size:Int))=true:=by simp [hk]
    have FF:Hid (sM s 0 [] (ls++[x])):=HI.o.yes _ (.done (by rw [<-hk];exact HL.o));have R5:Hid (He B g s s.size (cB (ls++[x])).2 x.down w4):=by rw [<-hk];exact R4.o
    clear hk R4 HI HL PL4
    go_wp2_with fail
    go_quiet (fail);go_wp2
    go_ret2
    have dn:=bd_ (Br_ w4.heap.size w4);exact .inl ⟨_,_,_,FF.o,rfl,L4.o.below (dn _),K4.o.trans (.below R5.o.lt (dn _)),R5.o.below (dn _)⟩
   .have e1:((k1:Int) == (s.size:Int))=false:=by simp;omega
    go_wp2_with fail
    go_quiet (fail);have dn:=bd_ (Br_ w4.heap.size w4) nq;have L5:=bK (L4.o.below dn);have K5:Hid (Rk B w (w4.drewN nq)):=K4.o.trans (.below R4.o.lt dn);have R5:=bK (R4.o.below dn);clear dn L4 K4 R4 c0 c1 e1;generalize w4.drewN nq=W5 at *;by_cases h16:ls.length+1=16
    .have e2:((ls.length:Int)+1 == 16)=true:=by simp;omega
     have FF:Hid (vZ s 0 0 k1):=HI.o.no _ (.full HL.o hk (.inl h16));clear HI HL hk;go_wp2
     go_ret2
     exact .inr ⟨_,_,_,FF.o,rfl,K5.o,R5.o⟩
    .have e2:((ls.length:Int)+1 == 16)=false:=by simp;omega
     obtain⟨vp5,Qx,JJ⟩:=R5.o;have TK:=bK (oq g k1 s vp5 _ 10 W5 JJ.rb (by omega));have RD:=bK JJ;clear JJ;by_cases h10:Pu.dG s k1=10
     focus
      rw [if_pos h10,dt_ h10] at TK;have klt:k1<s.size:=Pu.fB (s:=s) (i:=k1) (by rw [h10];decide);have Y2:Hid (∀all,sM s (k1+1) (ls++[x]) all->sM s 0 [] all):=fun all h2=>HI.o.yes _ (.more HL.o h10 (by omega) h2)
      have N2:Hid (∀k',vZ s (k1+1) (ls++[x]).length k'->vZ s 0 0 k'):=fun k' h2=>HI.o.no _ (.more HL.o h10 (by omega) (by simpa using h2))
     rotate_left
     focus
      rw [if_neg h10,dn_ h10] at TK;have FF:Hid (vZ s 0 0 k1):=HI.o.no _ (.full HL.o hk (.inr h10))
     rotate_left
     all_goals
      clear HI HL h10
      go_wp2_with fail
      refine TK.o.mono ?_
      clear TK;rintro e w6 ⟨rfl,rM,yD⟩
     .have rk6:=RD.o.rk rM;have J6:Hid (LnI B g s w (k1+1) (ls++[x]) (.slice a4 (ls.length+1) c4) w6):=⟨L5.o.rk rk6,⟨_,vp5,Qx,RD.o.eP rM yD⟩,K5.o.trans rk6,klt,Nat.le_succ_of_le PL4.o,Y2.o,N2.o,by simp;omega⟩;clear rM yD rk6 L5 K5 R5 RD PL4;go_wp2;go_roundg (s.size-(k1+1))
      case measure=>omega
      case rel=>exact⟨k1+1,ls++[x],rfl,J6.o⟩
     .have K6:=bK (K5.o.trans (RD.o.rk rM));have R6:=bK (show He B g s k1 _ _ w6 from ⟨vp5,Qx,RD.o.eP rM yD⟩);clear rM yD L5 K5 R5 RD PL4;go_wp2
      go_ret2
      exact .inr ⟨_,_,_,FF.o,rfl,K6.o,R6.o⟩
theorem Lm.get (h:Lm B W v ls) {x:aD} (hk:ls[k]?=some x) :
  ∃g cap af mf cf al nl cl,v=s_ g ls.length cap/\W.rangeAt g (k*8) (kC (x,.slice af mf cf,.slice al nl cl))/\ed W (.slice af mf cf) x.pt.first/\ed W (.slice al nl cl) x.pt.last:=by
 obtain⟨qs,h1,h2,h3⟩:=h;have e:ls.length=qs.length:=by rw [<-h2,lm_]
 rw [<-h2,gm_] at hk
 cases hq:qs[k]? with
 | none=>rw [hq] at hk;cases hk
 | some q=>
  rw [hq] at hk;simp only [Option.map_some,Option.some.injEq] at hk;subst hk;obtain⟨⟨af,mf,cf,e1⟩,⟨al,nl,cl,e2⟩,n1,n2⟩:=h3 q (mg_ hq);have kl:k<qs.length:=(ge_.1 hq).1;obtain⟨g,cap,ev,_,_⟩:=dJ h1 (by omega);subst ev;refine⟨g,cap,af,mf,cf,al,nl,cl,by rw [e],?_,by rw [<-e1];exact n1,by rw [<-e2];exact n2⟩;intro j u hu;have hj:j<8:=(ge_.1 hu).1;have hc:=acd hq hj;have eq:q=(q.1,.slice af mf cf,.slice al nl cl):=by rw [<-e1,<-e2]
  rw [<-eq] at hu;rw [hu] at hc;exact bT h1 hc
theorem qZ:(Tryz.prog.info? 85).map (·.size)=some 8:=by kernel_rfl
namespace Pu
def xL (h:Int) (x:aD):Int:=if (if h<x.mode then x.mode else h)<x.md then x.md else if h<x.mode then x.mode else h
def lD (ls:List aD):Int:=ls.foldl xL 0+1
end Pu
theorem D8 (B:Nat) (v:V_) (ls:List aD) (w:W_) (h:Lm B w v ls) (_hl:ls.length<=1000) (hm:∀x∈ls,0<=x.mode/\x.mode<=1000/\0<=x.md/\x.md<=1000) :
  C_ 82 #[v] w (mW (I_ (lD ls)) w):=by
 have hv:=h.len;obtain⟨av,cv,rfl,hv1,hv2⟩:=hv;have H0:=bK h;have HM:=bK hm;clear h hm;go_enter Tryz.func82,Tryz.ntmps82
 go_wp2_with fail
 go_loopg [3,5,8] ls.length (fun gk hv _ kv wx=>∃(k:Nat) (hi:Int),k<=ls.length/\gk=ls.length-k/\hv=I_ hi/\kv=I_ k/\0<=hi/\hi<=1000/\(ls.drop k).foldl Pu.xL hi=ls.foldl Pu.xL 0/\B_ w wx)
 case atStart=>exact⟨0,0,zl_ _,rfl,rfl,rfl,by omega,by omega,rfl,Br_ _ _⟩
 case round=>
  obtain⟨k,hi,kl,rfl,rfl,rfl,hi0,xL,hf,hb⟩:=hrel;have HF:=bK hf;have HB:=bK hb;clear hf hb;by_cases hlt:k<ls.length
  .have d1:=nV k ls.length;obtain⟨x,hx⟩:=qG ls k hlt;have hmx:=HM.o x (mg_ hx);have DR:Hid ((ls.drop (k+1)).foldl Pu.xL (Pu.xL hi x)=ls.foldl Pu.xL 0):=by have:=HF.o;rw [List.drop_eq_getElem?_toList_append,hx] at this;exact this
   clear HF;obtain⟨g,cap,af,mf,cf,al,nl,cl,ev,hr,_,_⟩:=(H0.o.below HB.o).get hx;cases ev;have wi:=kg k;have Mr:=jg k;have Ij:(k:Int)<ls.length:=by omega
   have hb2:=bK (HB.o.alloc HB.o.size (c_ (kC (x,.slice af mf cf,.slice al nl cl)).toArray 85));have BX:Hid (dh (wr.alloc (c_ (kC (x,.slice af mf cf,.slice al nl cl)).toArray 85)) wr.heap.size 85 (kC (x,.slice af mf cf,.slice al nl cl))):=hn_ _ _;have HR:=bK hr;clear hr hx;obtain⟨mo,em,ac,md,⟨ep,fi,la⟩,dn⟩:=x;simp only [kC] at hb2 BX HR;simp only at hmx;go_upto_region 5 with (refine wl_ rfl 85 (.tmp 10) rfl g (k*8) rfl _ _ HR.o Tryz.underlying85 rfl qZ ?_);have x0:=bP 0 BX.o rfl;have x3:=bP 3 BX.o rfl;clear HR BX;generalize wr.alloc (c_ #[I_ mo,I_ em,I_ ac,I_ md,.bool ep,.slice af mf cf,.slice al nl cl,.bool dn] 85)=W2 at *;simp only [Pu.xL] at DR;by_cases c1:hi<mo
   .have d2:decide (hi<mo)=true:=dt_ c1;rw [if_pos c1] at DR;by_cases c2:mo<md
    .have d3:decide (mo<md)=true:=dt_ c2;rw [if_pos c2] at DR;go_wp2;go_roundg (ls.length-(k+1))
     case measure=>omega
     case rel=>exact⟨k+1,md,by omega,rfl,rfl,by go_num,by omega,by omega,DR.o,hb2.o⟩
    .have d3:decide (mo<md)=false:=dn_ c2;rw [if_neg c2] at DR;go_wp2;go_roundg (ls.length-(k+1))
     case measure=>omega
     case rel=>exact⟨k+1,mo,by omega,rfl,rfl,by go_num,by omega,by omega,DR.o,hb2.o⟩
   .have d2:decide (hi<mo)=false:=dn_ c1;rw [if_neg c1] at DR;by_cases c2:hi<md
    .have d3:decide (hi<md)=true:=dt_ c2;rw [if_pos c2] at DR;go_wp2;go_roundg (ls.length-(k+1))
     case measure=>omega
     case rel=>exact⟨k+1,md,by omega,rfl,rfl,by go_num,by omega,by omega,DR.o,hb2.o⟩
    .have d3:decide (hi<md)=false:=dn_ c2;rw [if_neg c2] at DR;go_wp2;go_roundg (ls.length-(k+1))
     case measure=>omega
     case rel=>exact⟨k+1,hi,by omega,rfl,rfl,by go_num,by omega,by omega,DR.o,hb2.o⟩
  .have d1:=mM k ls.length;have e:k=ls.length:=by omega
   have wi:=xF (hi+1);have RES:Hid (lD ls=hi+1):=by have:=HF.o;rw [e,List.drop_length] at this;unfold lD;rw [<-this];rfl
   clear HF e;go_wp2;go_ret;exact⟨by rw [RES.o];rfl,HB.o⟩
namespace Pu
def mU (f:aC->Bool) (all:List aC) (i:Nat):Prop:=(∃x,all[i]?=some x/\f x=true)/\∀j x,j<i->all[j]?=some x->f x=false
def Aj (f:aC->Bool) (all:List aC):Prop:=∀x∈all,f x=false
def Gx (x:aC):Bool:=x.down
def Oz (x:aC):Bool:=x.re.iM
end Pu
def Dm (B:Nat) (W:W_) (v:V_) (ps:List Pu.aJ):Prop:=∃qs,W.ownsRow B 235 257 v qs.length (Tz qs)/\qs.map (·.1)=ps/\∀q∈qs,ed W q.2 q.1.next
abbrev yu:V_:=.agg #[I_ 0,n_,n_]
def Am (s:Y_) (w w':W_) (v:V_) (en no:Int):Prop:=
 (300<s.size/\v=yu/\en=9/\no=0)\/
 (s.size<=300/\∃k,vZ s 0 0 k/\v=yu/\en=10/\no=k)\/
 (s.size<=300/\∃all,sM s 0 [] all/\
  ((∃i,mU Gx all i/\v=yu/\en=11/\no=i)\/
   (Aj Gx all/\∃i,mU Oz all i/\v=yu/\en=12/\no=i)\/
   (Aj Gx all/\Aj Oz all/\∃al nl cl ap np cp,v=.agg #[I_ (lD (cB all).1),.slice al nl cl,.slice ap np cp]/\en=0/\no=0/\Lm w.heap.size w' (.slice al nl cl) (cB all).1/\Dm w.heap.size w' (.slice ap np cp) (cB all).2)))
def abg (s:Y_) (w:W_) (e:Ending) (w':W_):Prop:=∃v en no,e=.returned (.tuple #[v,I_ en,I_ no])/\B_ w w'/\Am s w w' v en no
theorem Bi {a b c:V_} (h:dh W g 78 [a,b,c]):(loadVar 78 (a_ g 0)).run Tryz.prog W=.ok (.agg #[a,b,c]) W:=
 run_loadVar_mid W g 0 78 [a,b,c] _ (dZ h) Tryz.underlying78 rfl (by kernel_rfl)
theorem Lm.mono (h:Lm B W v ls) (hb:B'<=B):Lm B' W v ls:=by obtain⟨qs,h1,h2,h3⟩:=h;exact⟨qs,dH h1 hb,h2,h3⟩
theorem Lm.grown (h:Lm B W v ls) (hb:dh W g t xs) (h1:t≠85) (h2:t≠3) (hg:W.grownBy W' (some g)):Lm B W' v ls:=by obtain⟨qs,k1,k2,k3⟩:=h;exact⟨qs,dA k1 hb h1 hg,k2,fun q hq=>⟨(k3 q hq).1,(k3 q hq).2.1,dI (k3 q hq).2.2.1 hb h2 hg,dI (k3 q hq).2.2.2 hb h2 hg⟩⟩
theorem Rd.plm {d:Bool} {vp:V_} {qs:List (Pu.aJ × V_)} (h:Rd B g s i ps d vp qs W):Dm B W vp ps:=⟨qs,h.own,h.ps,h.nx⟩
theorem Dm.grown (h:Dm B W v ps) (hb:dh W g t xs) (h1:t≠235) (h2:t≠3) (hg:W.grownBy W' (some g)):Dm B W' v ps:=by obtain⟨qs,k1,k2,k3⟩:=h;exact⟨qs,dA k1 hb h1 hg,k2,fun q hq=>dI (k3 q hq) hb h2 hg⟩
theorem Dm.below {B:Nat} {W W':W_} {v:V_} {ps:List Pu.aJ} (h:Dm B W v ps) (hb:B_ W W'):Dm B W' v ps:=by obtain⟨qs,k1,k2,k3⟩:=h;exact⟨qs,bU k1 hb di,k2,fun q hq=>(k3 q hq).below hb⟩
structure TX (s:Y_) (w:W_) (gR g:Nat) (all:List aC) (v:V_) (W:W_):Prop where
 be:B_ w W
 r:dh W gR 78 [I_ 0,n_,n_]
 lm:Lm w.heap.size W v (cB all).1
 rd:∃d,He w.heap.size g s s.size (cB all).2 d W
 ap:w.heap.size<=gR
section
variable {s:Y_} {w:W_} {gR g:Nat} {all:List aC} {v:V_} {W W':W_}
theorem TX.below (h:TX s w gR g all v W) (hb:B_ W W'):TX s w gR g all v W':=by obtain⟨d,rd⟩:=h.rd;exact⟨iT h.be hb,bN h.r hb (bO h.r),h.lm.below hb,⟨d,rd.below hb⟩,h.ap⟩
theorem sG {x y z:V_} (be:B_ w W) (r:dh W gR 78 [x,y,z]) (hr:w.heap.size<=gR) (a b c:V_) :
  (loadVar 78 (a_ gR 0)).run Tryz.prog (jO W gR a b c)=.ok (.agg #[a,b,c]) (jO W gR a b c)/\B_ w (jO W gR a b c):=
 ⟨Bi (ja r _ _ _),be.grown (iP W gR a b c) be.size (fun k e=>by cases e;exact hr)⟩
end
namespace Pu
theorem mU.skip {f:aC->Bool} {x:aC} (h:∀j y,j<k->all[j]?=some y->f y=false) (hx:all[k]?=some x) (hf:f x=false):∀j y,j<k+1->all[j]?=some y->f y=false:=by
 intro j y hj hy;by_cases e:j=k
 .subst e;rw [hx] at hy;cases hy;exact hf
 .exact h j y (by omega) hy
theorem Aj.of {f:aC->Bool} (h:∀j y,j<all.length->all[j]?=some y->f y=false):Aj f all:=by intro x hx;obtain⟨j,hj⟩:=gf_ hx;exact h j x (ge_.1 hj).1 hj
theorem qh (all:List aC) {x:aC} (h:all[k]?=some x):∃pt,(cB all).1[k]?=some (x.lp pt)/\pt.empty=x.re.iM:=by obtain⟨pt,h1,_,_,_,h5⟩:=(iV all).get k x h;exact⟨pt,h1,h5⟩
def KE (x:aC):Prop:=0<=x.mode/\x.mode<=3/\0<=x.md/\x.md<=3/\0<=x.emit/\x.emit<=1/\0<=x.act/\x.act<=3/\(x.act=1\/x.act=2\/x.md=0)
theorem Hd.bd {x:aC} (h:Hd s i k x):KE x:=by
 cases h with
 | mk h1 _ _ _ h5=>
  unfold KE fF at *
  cases h5 with
  | plain a _ _ _=>unfold nH at a;simp only;refine⟨by omega,by omega,by omega,by omega,by omega,by omega,by omega,by omega,?_⟩;simp
  | pop a _=>unfold nH at a;simp only;refine⟨by omega,by omega,by omega,by omega,by omega,by omega,by omega,by omega,?_⟩;simp
  | bG a _ b=>unfold nH at a;unfold fF at b;simp only;refine⟨by omega,by omega,by omega,by omega,by omega,by omega,by omega,by omega,?_⟩;simp
  | push a _ b=>unfold nH at a;unfold fF at b;simp only;refine⟨by omega,by omega,by omega,by omega,by omega,by omega,by omega,by omega,?_⟩;simp
theorem sM.bd {s:Y_} {i:Nat} {ls all:List aC} (h:sM s i ls all):(∀x∈ls,KE x)->∀x∈all,KE x:=by
 induction h with
 | done h1=>?_
 | more h1 _ _ _ ih=>?_
 focus intro k x hx
 rotate_left
 focus
  intro k;refine ih (fun x hx=>?_)
 all_goals
  rcases ma_.1 hx with h | h
  .exact k x h
  .simp at h;subst h;exact h1.bd
theorem sM.count {ls:List aC} (h:sM s i ls all):ls.length<16->1<=all.length/\all.length<=16:=by
 induction h with
 | done _=>intro k;simp;omega
 | more _ _ h3 _ ih=>intro _;exact ih (by simp;omega)
theorem sM.zl (h:sM s 0 [] all):(∀x∈all,KE x)/\1<=all.length/\all.length<=16:=⟨h.bd (fun x hx=>by simp at hx),h.count (by decide)⟩
theorem XY (h:∀x∈all,KE x):∀x∈(cB all).1,0<=x.mode/\x.mode<=1000/\0<=x.md/\x.md<=1000:=by
 intro y hy;obtain⟨k,hk⟩:=gf_ hy;have kl:k<all.length:=by rw [<-(iV all).n];exact (ge_.1 hk).1
 have hx:=gg_ kl;obtain⟨pt,h1,_⟩:=qh all hx;rw [hk] at h1;cases h1
 have:=h _ (List.getElem_mem kl);unfold KE at this;simp only [aC.lp];omega
end Pu
theorem GZ (s:Y_) (w:W_):C_ 53 #[.string s] w (abg s w):=by
 have TB:=bK (hn_ w (c_ #[I_ 0,n_,n_] 78));have B0:Hid (B_ w (w.alloc (c_ #[I_ 0,n_,n_] 78))):=(Br_ w.heap.size w).alloc di _;go_enter Tryz.func53,Tryz.ntmps53;by_cases hs:300<s.size
 .have d1:=nV (300:Int) (s.size:Int);have ld:=Bi TB.o;have FF:Hid (Am s w (w.alloc (c_ #[I_ 0,n_,n_] 78)) yu 9 0):=.inl ⟨hs,rfl,rfl,rfl⟩;go_wp2;exact br_ (by simp [results,Tryz.results53,asAddr,Result.andThen,ld]) rfl ⟨_,_,_,rfl,B0.o,FF.o⟩
 .have d1:=mM (300:Int) (s.size:Int);have b1:B_ w ((w.alloc (c_ #[I_ 0,n_,n_] 78)).alloc (c_ #[.string s,I_ 0,n_,.bool false] 184)):=B0.o.alloc (by simp) _;have XT:Hid (dh ((w.alloc (c_ #[I_ 0,n_,n_] 78)).alloc (c_ #[.string s,I_ 0,n_,.bool false] 184)) w.heap.size 78 [I_ 0,n_,n_]):=dx TB.o _;have RB1:Hid (He w.heap.size (w.heap.size+1) s 0 [] false ((w.alloc (c_ #[I_ 0,n_,n_] 78)).alloc (c_ #[.string s,I_ 0,n_,.bool false] 184))):=by have h2:=hn_ (w.alloc (c_ #[I_ 0,n_,n_] 78)) (c_ #[.string s,I_ 0,n_,.bool false] 184);rw [wa_] at h2;exact⟨n_,[],h2,by omega,fT _ _ _ _,rfl,fun q hq=>by simp at hq⟩
  have B1:=bK b1;clear b1 B0 TB
  go_wp2_with fail
  generalize (w.alloc (c_ #[I_ 0,n_,n_] 78)).alloc (c_ #[.string s,I_ 0,n_,.bool false] 184)=W1 at *;generalize w.heap.size+1=g at *;refine (Vs w.heap.size g s false W1 RB1.o (by omega)).mono ?_
  rintro e w2 (⟨all,v,d,hL,rfl,lm,rk,rd⟩ | ⟨k,ps',d',hF,rfl,rk,rd⟩)
  .have bd:=hL.zl;have LLN:Hid ((cB all).1.length=all.length):=Ho all;obtain⟨av,cv,rfl,hv1,hv2⟩:=lm.len;rw [LLN.o] at lm hv1;rw [LLN.o];have T2a:Hid (TX s w w.heap.size g all (.slice av all.length cv) w2):=⟨B1.o.trans rk.lo,rk.fA XT.o (by decide) (by decide),lm.mono B1.o.size,⟨d,rd⟩,di⟩;have HL:=bK hL;have hs3:s.size<=300:=by omega
   clear lm rk rd hL B1 XT RB1
   go_wp2_with fail
   go_loopg [8,9,29] all.length (fun gk _ _ kv wx=>∃k:Nat,k<=all.length/\gk=all.length-k/\kv=I_ k/\TX s w w.heap.size g all (.slice av all.length cv) wx/\∀j y,j<k->all[j]?=some y->Gx y=false)
   case atStart=>exact⟨0,zl_ _,rfl,rfl,T2a.o,fun j y hj=>by omega⟩
   case round=>
    clear T2a;obtain⟨k,kl,rfl,rfl,hT,hN⟩:=hrel;have HT:=bK hT;have HN:=bK hN;clear hT hN;by_cases hlt:k<all.length
    .have d1:=nV k all.length;obtain⟨x,hx⟩:=qG all k hlt;obtain⟨pt,hpt,hem⟩:=qh all hx;obtain⟨gv,cap,af,mf,cf,al,nl,cl,ev,hr,_,_⟩:=HT.o.lm.get hpt;rw [LLN.o] at ev;cases ev;have wi:=kg k;have Mr:=jg k;have Ij:(k:Int)<all.length:=by omega
     have T2:=bK (HT.o.below ((Br_ wr.heap.size wr).alloc di (c_ (kC (x.lp pt,.slice af mf cf,.slice al nl cl)).toArray 85)));have BX:Hid (dh (wr.alloc (c_ (kC (x.lp pt,.slice af mf cf,.slice al nl cl)).toArray 85)) wr.heap.size 85 (kC (x.lp pt,.slice af mf cf,.slice al nl cl))):=hn_ _ _;have HR:=bK hr;have FX:Hid (x.down=Gx x):=rfl;have HX:=bK hx;clear hr hx hpt hem HT;simp only [kC,aC.lp] at T2 BX HR;go_upto_region 10 with (refine wl_ rfl 85 (.tmp 32) rfl gv (k*8) rfl _ _ HR.o Tryz.underlying85 rfl qZ ?_);generalize wr.alloc (c_ #[I_ x.mode,I_ x.emit,I_ x.act,I_ x.md,.bool pt.empty,.slice af mf cf,.slice al nl cl,.bool x.down] 85)=W2 at *;have x7:=bP 7 BX.o rfl
     cases hd:x.down with
     | true=>
      rw [hd] at x7;have FF:Hid (∀W,Am s w W yu 11 k):=fun W=>.inr (.inr ⟨hs3,all,HL.o,.inl ⟨k,⟨⟨x,HX.o,by rw [<-FX.o];exact hd⟩,HN.o⟩,rfl,rfl,rfl⟩⟩)
      have TT:=T2;clear T2 FX HN HX BX;obtain⟨ld,bF⟩:=sG TT.o.be TT.o.r TT.o.ap (I_ 0) n_ n_;have BF:=bK bF;have z0:=bP 0 TT.o.r rfl;have z1:=bP 1 TT.o.r rfl;have z2:=bP 2 TT.o.r rfl;have f0:=bL TT.o.r 0;have f1:=bL TT.o.r 1;have f2:=bL TT.o.r 2;clear bF;go_wp2;exact br_ (by simp [results,Tryz.results53,asAddr,Result.andThen,ld]) rfl ⟨_,_,_,rfl,BF.o,FF.o _⟩
     | false=>
      rw [hd] at x7;have N2:=bK (mU.skip HN.o HX.o (by rw [<-FX.o];exact hd));clear FX HN HX BX;go_wp2;go_roundg (all.length-(k+1))
      case measure=>omega
      case rel=>exact⟨k+1,by omega,rfl,by go_num,T2.o,N2.o⟩
    .have d1:=mM k all.length;have e:k=all.length:=by omega
     have ND:=bK (Aj.of (f:=Gx) (by rw [<-e];exact HN.o));clear e HN;have T2b:=HT;have NDD:=ND;clear HT ND
     go_wp2_with fail
     go_loopg [10,11,41] all.length (fun gk _ _ kv wx=>∃k:Nat,k<=all.length/\gk=all.length-k/\kv=I_ k/\TX s w w.heap.size g all (.slice av all.length cv) wx/\∀j y,j<k->all[j]?=some y->Oz y=false)
     case atStart=>exact⟨0,zl_ _,rfl,rfl,T2b.o,fun j y hj=>by omega⟩
     case round=>
      clear T2b;obtain⟨k,kl,rfl,rfl,hT,hN⟩:=hrel;have HT:=bK hT;have HN:=bK hN;clear hT hN;by_cases hlt:k<all.length
      .have d1:=nV k all.length;obtain⟨x,hx⟩:=qG all k hlt;obtain⟨pt,hpt,hem⟩:=qh all hx;obtain⟨gv,cap,af,mf,cf,al,nl,cl,ev,hr,_,_⟩:=HT.o.lm.get hpt;rw [LLN.o] at ev;cases ev;have wi:=kg k;have Mr:=jg k;have Ij:(k:Int)<all.length:=by omega
       have T2:=bK (HT.o.below ((Br_ wr.heap.size wr).alloc di (c_ (kC (x.lp pt,.slice af mf cf,.slice al nl cl)).toArray 85)));have BX:Hid (dh (wr.alloc (c_ (kC (x.lp pt,.slice af mf cf,.slice al nl cl)).toArray 85)) wr.heap.size 85 (kC (x.lp pt,.slice af mf cf,.slice al nl cl))):=hn_ _ _;have HR:=bK hr;have FX:Hid (pt.empty=Oz x):=hem;have HX:=bK hx;clear hr hx hpt hem HT;simp only [kC,aC.lp] at T2 BX HR;go_upto_region 16 with (refine wl_ rfl 85 (.tmp 44) rfl gv (k*8) rfl _ _ HR.o Tryz.underlying85 rfl qZ ?_);generalize wr.alloc (c_ #[I_ x.mode,I_ x.emit,I_ x.act,I_ x.md,.bool pt.empty,.slice af mf cf,.slice al nl cl,.bool x.down] 85)=W2 at *;have x7:=bP 4 BX.o rfl
       cases hd:pt.empty with
       | true=>
        rw [hd] at x7;have FF:Hid (∀W,Am s w W yu 12 k):=fun W=>.inr (.inr ⟨hs3,all,HL.o,.inr (.inl ⟨NDD.o,k,⟨⟨x,HX.o,by rw [<-FX.o];exact hd⟩,HN.o⟩,rfl,rfl,rfl⟩)⟩)
        have TT:=T2;clear T2 FX HN HX BX;obtain⟨ld,bF⟩:=sG TT.o.be TT.o.r TT.o.ap (I_ 0) n_ n_;have BF:=bK bF;have z0:=bP 0 TT.o.r rfl;have z1:=bP 1 TT.o.r rfl;have z2:=bP 2 TT.o.r rfl;have f0:=bL TT.o.r 0;have f1:=bL TT.o.r 1;have f2:=bL TT.o.r 2;clear bF;go_wp2;exact br_ (by simp [results,Tryz.results53,asAddr,Result.andThen,ld]) rfl ⟨_,_,_,rfl,BF.o,FF.o _⟩
       | false=>
        rw [hd] at x7;have N2:=bK (mU.skip HN.o HX.o (by rw [<-FX.o];exact hd));clear FX HN HX BX;go_wp2;go_roundg (all.length-(k+1))
        case measure=>omega
        case rel=>exact⟨k+1,by omega,rfl,by go_num,T2.o,N2.o⟩
      .have d1:=mM k all.length;have e:k=all.length:=by omega
       have ND:=bK (Aj.of (f:=Oz) (by rw [<-e];exact HN.o));clear e HN;obtain⟨d5,vp5,Qx,JJ⟩:=HT.o.rd;obtain⟨ap,cp,rfl,_,_⟩:=dS JJ.own;have c2:wr.drew.cell? (a_ g 2)=some (.slice ap Qx.length cp):=bM (j:=2) JJ.rb rfl;have T3:=bK (HT.o.below (Br_ wr.heap.size wr).drew);have RD:=bK (JJ.below (Br_ wr.heap.size wr).drew);have CM:=bK (D8 w.heap.size _ _ wr.drew T3.o.lm (by rw [LLN.o];omega) (XY bd.1));clear JJ HT
       go_wp2_with fail
       refine wd_ (S:=fun w'=>w'.cell? (a_ g 2)=some (.slice ap Qx.length cp)) (by kernel_rfl) c2 (fun dF=>?_);refine bW 0 ?_
       refine bW 2 ?_
       refine bW 3 ?_
       refine bW 4 ?_
       refine fq 1 (fun K hK=>?_)
       go_simp
       refine CM.o.mono ?_
       clear CM;rintro e w6 ⟨rfl,hb6⟩;have T6:=bK (T3.o.below hb6);have R6:=bK (RD.o.below hb6);have c26:=bP 2 R6.o.rb rfl;clear hb6 T3 RD c2;refine hK.out _ _ c26 (fun fV=>?_);clear hK K
       try simp only [nU,Act.put]
       refine bW 5 ?_
       refine fq 6 (fun K hK=>?_);obtain⟨ld,bF⟩:=sG T6.o.be T6.o.r T6.o.ap (I_ (lD (cB all).1)) (.slice av all.length cv) (.slice ap Qx.length cp);have g6:=iP w6 w.heap.size (I_ (lD (cB all).1)) (.slice av all.length cv) (.slice ap Qx.length cp);have FF:Hid (Am s w (jO w6 w.heap.size (I_ (lD (cB all).1)) (.slice av all.length cv) (.slice ap Qx.length cp)) (.agg #[I_ (lD (cB all).1),.slice av all.length cv,.slice ap Qx.length cp]) 0 0):=.inr (.inr ⟨hs3,all,HL.o,.inr (.inr ⟨NDD.o,ND.o,_,_,_,_,_,_,rfl,rfl,rfl,T6.o.lm.grown T6.o.r (by decide) (by decide) g6,R6.o.plm.grown T6.o.r (by decide) (by decide) g6⟩)⟩);have c27:(jO w6 w.heap.size (I_ (lD (cB all).1)) (.slice av all.length cv) (.slice ap Qx.length cp)).cell? (a_ g 2)=some (.slice ap Qx.length cp):=bM (j:=2) (bQ R6.o.rb g6 (fun e=>dD R6.o.rb T6.o.r (by decide) (oi_ e))) rfl;have BF:=bK bF;clear bF g6;refine vH rfl 78 (.tmp 2) (.tmp 57) rfl w.heap.size 0 #[I_ (lD (cB all).1),.slice av all.length cv,.slice ap Qx.length cp] rfl rfl (by have:=mH T6.o.r;exact this) (by kernel_rfl) (by simp [Value.oneCell']) ?_
       refine hK.out _ _ c27 (fun lh=>?_);clear hK K T6 R6
       try simp only [gt_,List.getElem_cons_succ,cz_,Act.put]
       refine fq 7 (fun K hK=>?_)
       go_simp
       refine hK.out _ _ lh (fun lq=>?_);clear hK K
       try simp only [nU,Act.put]
       refine fq 8 (fun K hK=>?_)
       go_simp
       refine hK.out _ _ lh (fun oM=>?_);clear hK K;refine wpAnyH_done (by kernel_rfl) ?_ _;clear dF fV lh lq oM c27 c26;have ld:(loadVar 78 (a_ w.heap.size 0)).run Tryz.prog (w6.setCells w.heap.size 0 [I_ (lD (cB all).1),.slice av all.length cv,.slice ap Qx.length cp])=.ok (.agg #[I_ (lD (cB all).1),.slice av all.length cv,.slice ap Qx.length cp]) (w6.setCells w.heap.size 0 [I_ (lD (cB all).1),.slice av all.length cv,.slice ap Qx.length cp]):=ld;go_wp2;exact br_ (by simp [results,Tryz.results53,asAddr,Result.andThen,ld]) rfl ⟨_,_,_,rfl,BF.o,FF.o⟩
  .have Gj:=bK (rk.fA XT.o (by decide) (by decide));have BE2:=bK (B1.o.trans rk.lo);have FF:Hid (∀W,Am s w W yu 10 k):=fun W=>.inr (.inl ⟨by omega,k,hF,rfl,rfl,rfl⟩)
   obtain⟨vp2,qs2,Ku⟩:=rd;have c1:=bP 1 Ku.rb rfl;have z0:=bP 0 Gj.o rfl;have z1:=bP 1 Gj.o rfl;have z2:=bP 2 Gj.o rfl;have f0:=bL Gj.o 0;have f1:=bL Gj.o 1;have f2:=bL Gj.o 2;have ne1:g≠w.heap.size:=dD Ku.rb Gj.o (by decide);have yZ:w.heap.size≠g:=fun e=>ne1 e.symm
   obtain⟨_,bF⟩:=sG (gR:=w.heap.size) BE2.o Gj.o di (I_ 0) n_ n_;have ld:=Bi (W:=(jO w2 w.heap.size (I_ 0) n_ n_).drew) (ja Gj.o (I_ 0) n_ n_);have BF:=bK bF;clear bF Ku rk hF BE2 Gj B1 XT RB1
   go_wp2_with fail
   go_region
   all_goals
    go_wp2;exact br_ (by simp [results,Tryz.results53,asAddr,Result.andThen,ld]) rfl ⟨_,_,_,rfl,BF.o.drew,FF.o _⟩
end Go.Proofs.YtmccnmgaoppogaaGreat
