/-
 The walks: all lines. (rules)
 The walks: how many modes there are. (rules)
-/
import Derived.Test.YtmccnmgaoppogaaGreatE20A
namespace Go.Proofs.YtmccnmgaoppogaaGreat
set_option maxRecDepth 100000
set_option maxHeartbeats 8000000
open Go.RowKit
def lnC1 (q:Pure.Lp × Value × Value):List Value:=[.int .i64 q.1.mode,.int .i64 q.1.emit,.int .i64 q.1.act,.int .i64 q.1.md,.bool q.1.pt.empty,q.2.1,q.2.2,.bool q.1.down]
def lnC (qs:List (Pure.Lp × Value × Value)):List Value:=qs.flatMap lnC1
theorem lnC_append (a b:List (Pure.Lp × Value × Value)):lnC (a++b)=lnC a++lnC b:=by simp [lnC]
theorem lnC_length (qs:List (Pure.Lp × Value × Value)):(lnC qs).length=qs.length*8:=by
 induction qs with
 | nil=>rfl
 | cons q r ih=>
  show (lnC1 q++lnC r).length=_;rw [List.length_append,ih,List.length_cons];show 8+_=_;omega
theorem lnC_get {qs:List (Pure.Lp × Value × Value)} {p j:Nat} {q:Pure.Lp × Value × Value} (h:qs[p]?=some q) (hj:j<8):(lnC qs)[p*8+j]?=(lnC1 q)[j]?:=by
 induction qs generalizing p with
 | nil=>simp at h
 | cons z r ih=>
  show (lnC1 z++lnC r)[_]?=_;have hz:(lnC1 z).length=8:=rfl
  cases p with
  | zero=>
   rw [List.getElem?_cons_zero] at h;cases h;rw [Nat.zero_mul,Nat.zero_add,List.getElem?_append_left (by omega)]
  | succ p=>
   rw [List.getElem?_cons_succ] at h;rw [List.getElem?_append_right (by omega),hz,show (p+1)*8+j-8=p*8+j by omega];exact ih h
def Lm (B:Nat) (W:World) (v:Value) (ls:List Pure.Lp):Prop:=∃qs,W.ownsRow B 85 8 v qs.length (lnC qs)∧qs.map (·.1)=ls∧∀q∈qs,(∃a n c,q.2.1=.slice a n c)∧(∃a n c,q.2.2=.slice a n c)∧Nats W q.2.1 q.1.pt.first∧Nats W q.2.2 q.1.pt.last
theorem Rk.rows {B B':Nat} {w w':World} {t size n:Nat} {v:Value} {xs:List Value} (h:Rk B w w') (hn:w.ownsRow B' t size v n xs) (h1:t≠184) (h2:t≠235):w'.ownsRow B' t size v n xs:=by
 refine⟨hn.1,?_⟩
 rcases hn.2 with h0 | ⟨g,cap,cur,h3,h4,h5,h6⟩
 ·exact .inl h0
 ·exact .inr ⟨g,cap,cur,h3,h4,h.keep g _ _ _ h5 h1 h2,h6⟩
theorem rows_apart {w w':World} {B B' t t' size size' n n':Nat} {v v':Value} {xs ys:List Value} (h:w.ownsRow B t size v n xs) (h':w.ownsRow B' t' size' v' n' ys) (ht:t≠t') (hg:w.grownBy w' v'.ownBlock):w'.ownsRow B t size v n xs:=by
 refine⟨h.1,?_⟩
 rcases h.2 with h0 | ⟨g,cap,cur,h1,h2,h3,h4⟩
 ·exact .inl h0
 ·refine .inr ⟨g,cap,cur,h1,h2,?_,h4⟩
  have hl:=(Array.getElem?_eq_some_iff.1 h3).1
  rw [hg.block g hl (fun e=>by
   rcases h'.2 with ⟨e1,_⟩ | ⟨g',cap',cur',e1,_,e3,_⟩
   ·rw [e1] at e;cases e
   ·rw [e1] at e
    cases e
    rw [h3] at e3;cases e3
    exact ht rfl)]
  exact h3
section
variable {B B':Nat} {W W':World} {v:Value} {ls:List Pure.Lp}
theorem Lm.rk (h:Lm B W v ls) (hk:Rk B' W W'):Lm B W' v ls:=by
 obtain⟨qs,h1,h2,h3⟩:=h
 exact⟨qs,hk.rows h1 (by decide) (by decide),h2,fun q hq=>⟨(h3 q hq).1,(h3 q hq).2.1,hk.nats (h3 q hq).2.2.1,hk.nats (h3 q hq).2.2.2⟩⟩
theorem Lm.below (h:Lm B W v ls) (hb:Below W.heap.size W W'):Lm B W' v ls:=h.rk (.below lr_ hb)
theorem Lm.len (h:Lm B W v ls):∃a c,v=.slice a ls.length c∧ls.length≤c∧c≤9223372036854775807:=by
 obtain⟨qs,h1,h2,_⟩:=h
 have e:ls.length=qs.length:=by rw [←h2,List.length_map]
 rw [e]
 exact own_fm h1
end
theorem line_info:(Tryz.prog.info? 85).map (fun i=>(i.zero,i.size,i.bytes))=some (some (.agg (lnL 0 0 0 0 false none 0 0 none 0 0 false).toArray),8,96):=by kernel_rfl
theorem own_none (W:World) (e size:Nat):(W.alloc (.cells #[] e)).ownsRow W.heap.size e size (.slice (some ⟨W.heap.size,0,none⟩) 0 0) 0 []:=
 ⟨by simp,.inr ⟨W.heap.size,0,#[],rfl,lr_,heap_alloc_new W _,lr_,by unfold maxLen;omega,by simp,by simp⟩⟩
theorem wpList_append_ln {w:World} {ops:Array Oper} {rest:List Oper} {o:Oper} {a:Act} {Q:Exit→Act→World→Prop} (hgd:o.guard=none) (s x:Operand)
  (ho:o.op=.call { callee:=.builtin .append,args:=#[s,x],argTypes:=#[75,75] }) (base:Nat) (v:Value) (qs:List (Pure.Lp × Value × Value)) (hs:a.eval s=v) (hown:w.ownsRow base 85 8 v qs.length (lnC qs))
  (gx:Nat) (q:Pure.Lp × Value × Value) (hx:a.eval x=.slice (some ⟨gx,0,none⟩) 1 1) (hb:Blk w gx 85 (lnC1 q)) (hq:∀u∈lnC1 q,u.oneCell'=true) (hlen:qs.length≤1000) (hbase:base≤w.heap.size)
  (h:∀v' w',w'.ownsRow base 85 8 v' (qs++[q]).length (lnC (qs++[q]))→w.grownBy w' v.ownBlock→wpList Tryz.prog ops Q rest (a.put o.dst v') w'):wpList Tryz.prog ops Q (o::rest) a w:=by
 obtain⟨il,hil,hl0,hl1,hl2⟩:=info_parts line_info
 refine wpList_append_own _ hgd s x 75 ho base 85 il _ 8 96 Tryz.underlying75 hil hl0 hl1 hl2 rfl (by decide) v qs.length (lnC qs) hs hown ⟨gx,0,none⟩ 1 1 (lnC1 q) hx rfl ?_ hq (by unfold maxLen;omega) (by omega) hbase ?_
 ·intro j y hy
  have:=blk_cell hb hy;simpa [add_eq] using this
 ·intro v' w' h1 h2 _
  refine h v' w' ?_ h2;rw [List.length_append,lnC_append];have e:lnC [q]=lnC1 q:=by simp [lnC]
  rw [e];exact h1
theorem lnC1_one {x:Pure.Lp} {a b:Option Addr} {m c n k:Nat}:∀u∈lnC1 (x,.slice a m c,.slice b n k),u.oneCell'=true:=by
 intro u hu
 simp [lnC1] at hu
 rcases hu with rfl | rfl | rfl | rfl | rfl | rfl | rfl | rfl <;> rfl
theorem Rk.freshRow {B base t size n:Nat} {w w1 w2:World} {v:Value} {xs:List Value} (h:Rk B w w1) (ho:w1.ownsRow base t size v n xs) (hb:w.heap.size≤base) (h2:B≤w.heap.size) (hg:w1.grownBy w2 v.ownBlock):Rk B w w2:=by
 refine⟨h.lo.grown hg (Nat.le_trans h2 h.lo.size) (fun k e=>by have:=(World.ownsRow.lt ho k e).1;omega),fun k cs t' fr hk a b=>?_⟩
 have hl:=(Array.getElem?_eq_some_iff.1 hk).1
 have:=h.keep k cs t' fr hk a b
 rw [hg.block k (Nat.lt_of_lt_of_le hl h.lo.size) (fun e=>by have:=(World.ownsRow.lt ho k e.symm).1;omega)]
 exact this
theorem Rd.grownRow {B g i base t size n:Nat} {s:ByteArray} {ps:List Pure.Pl} {d:Bool} {vp v:Value} {qs:List (Pure.Pl × Value)} {xs:List Value} {W W':World} (h:Rd B g s i ps d vp qs W) (ho:W.ownsRow base t size v n xs) (h1:t≠184) (h2:t≠235) (h3:t≠3) (hg:W.grownBy W' v.ownBlock):Rd B g s i ps d vp qs W':=
 ⟨row_far ho h.rb (fun e=>h1 e.symm) hg,h.up,rows_apart h.own ho (fun e=>h2 e.symm) hg,h.ps,fun q hq=>rows_apart (h.nx q hq) ho (fun e=>h3 e.symm) hg⟩
theorem Lm.add {base:Nat} {W W':World} {v v':Value} {ls:List Pure.Lp} {qs:List (Pure.Lp × Value × Value)} {x:Pure.Lp} {a b:Option Addr} {m c n k:Nat} (ho:W.ownsRow base 85 8 v qs.length (lnC qs)) (hm:qs.map (·.1)=ls) (hn:∀q∈qs,(∃a n c,q.2.1=.slice a n c)∧(∃a n c,q.2.2=.slice a n c)∧Nats W q.2.1 q.1.pt.first∧Nats W q.2.2 q.1.pt.last)
  (n1:Nats W (.slice a m c) x.pt.first) (n2:Nats W (.slice b n k) x.pt.last) (ho':W'.ownsRow base 85 8 v' (qs++[(x,Value.slice a m c,Value.slice b n k)]).length (lnC (qs++[(x,Value.slice a m c,Value.slice b n k)]))) (hg:W.grownBy W' v.ownBlock):Lm base W' v' (ls++[x]):=by
 refine⟨_,ho',by simp [hm],fun q hq=>?_⟩
 rcases List.mem_append.1 hq with h | h
 ·exact⟨(hn q h).1,(hn q h).2.1,rows_apart (hn q h).2.2.1 ho (by decide) hg,rows_apart (hn q h).2.2.2 ho (by decide) hg⟩
 ·simp at h
  subst h;exact⟨⟨_,_,_,rfl⟩,⟨_,_,_,rfl⟩,rows_apart n1 ho (by decide) hg,rows_apart n2 ho (by decide) hg⟩
def RetLns (B g:Nat) (s:ByteArray) (w:World) (e:Ending) (w':World):Prop:=
 (∃all v d,Pure.Lns s 0 [] all∧e=.returned (.tuple #[v,.bool true])∧Lm w.heap.size w' v (Pure.allLn all).1∧Rk B w w'∧Rde B g s s.size (Pure.allLn all).2 d w')∨
 (∃k ps' d',Pure.LnsF s 0 0 k∧e=.returned (.tuple #[.slice none 0 0,.bool false])∧Rk B w w'∧Rde B g s k ps' d' w')
structure LnI (B g:Nat) (s:ByteArray) (w:World) (k:Nat) (ls:List Pure.Ln) (v:Value) (W:World):Prop where
 lm:Lm w.heap.size W v (Pure.allLn ls).1
 rd:∃d,Rde B g s k (Pure.allLn ls).2 d W
 rk:Rk B w W
 kl:k≤s.size
 pl:(Pure.allLn ls).2.length≤k
 yes:∀all,Pure.Lns s k ls all→Pure.Lns s 0 [] all
 no:∀k',Pure.LnsF s k ls.length k'→Pure.LnsF s 0 0 k'
 n:ls.length<16
theorem allLn_snoc (ls:List Pure.Ln) (x:Pure.Ln):Pure.allLn (ls++[x])=Pure.addLn (Pure.allLn ls) x:=by simp [Pure.allLn]
theorem allLn_len (ls:List Pure.Ln):(Pure.allLn ls).1.length=ls.length:=(Pure.allLn_lin ls).n
namespace Pure
theorem LnP.le {s:ByteArray} {i k:Nat} {x:Ln} (h:LnP s i k x):i+x.re.leaves≤k∧i<k∧k≤s.size:=by
 cases h with
 | mk h1 h2 h3 h4 h5=>
  have a:=h3.leaves;have b:=h5.le;simp only [Nt.lv] at a;simp only;omega
end Pure
theorem lines_any (B g:Nat) (s:ByteArray) (d:Bool) (w:World) (h:Rde B g s 0 [] d w) (hs:s.size≤400) :
  Calls Tryz.prog 81 #[.pointer (some ⟨g,0,none⟩)] w (RetLns B g s w):=by
 obtain⟨il,hil,hl0,hl1,hl2⟩:=info_parts line_info
 have BL:=h.lt
 have I0:Hid (LnI B g s w 0 [] (.slice (some ⟨w.heap.size,0,none⟩) 0 0) (w.alloc (.cells #[] 85))):=⟨⟨[],own_none _ _ _,rfl,fun q hq=>by simp at hq⟩,⟨d,h.below (bn_ _)⟩,.alloc BL _,Nat.zero_le _,Nat.zero_le _,fun _ k=>k,fun _ k=>k,by decide⟩
 clear h
 go_enter Tryz.func81,Tryz.ntmps81
 go_wp2_with fail
 go_loopg [4,5,6] s.size (fun gk v _ _ wx=>∃k ls,gk=s.size-k∧LnI B g s w k ls v wx)
 case atStart=>exact⟨0,[],rfl,I0.out⟩
 case round=>
  clear I0;obtain⟨k,ls,rfl,hI⟩:=hrel;obtain⟨d1,rd1⟩:=hI.rd;have LN:=hide (line_any B g k s _ d1 wr rd1 (Pure.allLn_lin ls).ok hI.pl hI.kl hs);have HI:=hide hI;have kl:=hI.kl;have nl16:=hI.n;clear hI rd1
  go_wp2_with fail
  refine LN.out.mono ?_
  clear LN;rintro e w1 (⟨k1,x,af,mf,cf,al,nl,cl,hL,rfl,n1,n2,rk1,rd1⟩ | ⟨k1,mode,em,act,md,c,af,mf,cf,al,nl,cl,dn,ps',d',hF,rfl,rk1,rd1⟩)
  rotate_left
  ·have hb:=(Below.refl w1.heap.size w1).alloc lr_ (.cells (lnL mode em act md c af mf cf al nl cl dn).toArray 85)
   have KF:Hid (Rk B w (w1.alloc (.cells (lnL mode em act md c af mf cf al nl cl dn).toArray 85))):=(HI.out.rk.trans rk1).trans (.below rd1.lt hb);have RF:=hide (rd1.below hb);have FF:=hide (HI.out.no _ (.here hF));clear hb rk1 rd1 hF HI;simp only [lnL] at KF RF;simp only [lnL];go_wp2
   go_ret2
   exact .inr ⟨_,_,_,FF.out,rfl,KF.out,RF.out⟩
  ·have hb:=(Below.refl w1.heap.size w1).alloc lr_ (.cells (lnL x.mode x.emit x.act x.md (Pure.part x.re (Pure.allLn ls).2).1.empty af mf cf al nl cl x.down).toArray 85)
   have BX:Blk (w1.alloc (.cells (lnL x.mode x.emit x.act x.md (Pure.part x.re (Pure.allLn ls).2).1.empty af mf cf al nl cl x.down).toArray 85)) w1.heap.size 85 (lnL x.mode x.emit x.act x.md (Pure.part x.re (Pure.allLn ls).2).1.empty af mf cf al nl cl x.down):=heap_alloc_new _ _;have lm2:=(HI.out.lm.rk rk1).below hb;have K2:Hid (Rk B w (w1.alloc (.cells (lnL x.mode x.emit x.act x.md (Pure.part x.re (Pure.allLn ls).2).1.empty af mf cf al nl cl x.down).toArray 85))):=(HI.out.rk.trans rk1).trans (.below rd1.lt hb);have R2:=hide (rd1.below hb);have N1:=hide (n1.below hb);have N2:=hide (n2.below hb);have HL:=hide hL;have kb:=hL.le;have pl0:=HI.out.pl;have pln:=Pure.part_length x.re (Pure.allLn ls).2;clear hb rk1 rd1 n1 n2 hL;obtain⟨X,hX⟩:∃X,X=x.lp (Pure.part x.re (Pure.allLn ls).2).1:=⟨_,rfl⟩;have eC:lnL x.mode x.emit x.act x.md (Pure.part x.re (Pure.allLn ls).2).1.empty af mf cf al nl cl x.down=lnC1 (X,.slice af mf cf,.slice al nl cl):=by rw [hX];rfl
   have N1':Hid (Nats (w1.alloc (.cells (lnL x.mode x.emit x.act x.md (Pure.part x.re (Pure.allLn ls).2).1.empty af mf cf al nl cl x.down).toArray 85)) (.slice af mf cf) X.pt.first):=by rw [hX];exact N1.out
   have N2':Hid (Nats (w1.alloc (.cells (lnL x.mode x.emit x.act x.md (Pure.part x.re (Pure.allLn ls).2).1.empty af mf cf al nl cl x.down).toArray 85)) (.slice al nl cl) X.pt.last):=by rw [hX];exact N2.out
   have HX:=hide hX;clear N1 N2 hX;rw [eC] at BX lm2 K2 R2 N1' N2';rw [eC];clear eC;obtain⟨qs,own,hm,hn⟩:=lm2;have qn:qs.length=ls.length:=by rw [←allLn_len ls,←hm,List.length_map]
   have OWN:=hide own;have HM:=hide hm;have HN:=hide hn;have BX:=hide BX;obtain⟨av,cv,rfl,_,_⟩:=own_fm own;clear own hm hn;have szw:=K2.out.lo.size;simp only [lnC1] at BX K2 R2 N1' N2' OWN HN;simp only [lnC1];go_upto_region 5 with (fail);generalize w1.alloc (.cells #[.int .i64 X.mode,.int .i64 X.emit,.int .i64 X.act,.int .i64 X.md,.bool X.pt.empty,.slice af mf cf,.slice al nl cl,.bool X.down] 85)=W2 at *;generalize w1.heap.size=gB at *;have b0:=bc_ 0 BX.out rfl;have b1:=bc_ 1 BX.out rfl;have b2:=bc_ 2 BX.out rfl;have b3:=bc_ 3 BX.out rfl;have b4:=bc_ 4 BX.out rfl;have b5:=bc_ 5 BX.out rfl;have b6:=bc_ 6 BX.out rfl;have b7:=bc_ 7 BX.out rfl;have hb3:=(Below.refl W2.heap.size W2).alloc lr_ (.cells (lnC1 (X,.slice af mf cf,.slice al nl cl)).toArray 85);have K3:Hid (Rk B w (W2.alloc (.cells (lnC1 (X,.slice af mf cf,.slice al nl cl)).toArray 85))):=K2.out.trans (.below R2.out.lt hb3);have R3:=hide (R2.out.below hb3);have N1:=hide (N1'.out.below hb3);have N2:=hide (N2'.out.below hb3);have OWN3:=hide (own_below OWN.out hb3 lr_);have HN3:Hid (∀q∈qs,(∃a n c,q.2.1=.slice a n c)∧(∃a n c,q.2.2=.slice a n c)∧Nats (W2.alloc (.cells (lnC1 (X,.slice af mf cf,.slice al nl cl)).toArray 85)) q.2.1 q.1.pt.first∧Nats (W2.alloc (.cells (lnC1 (X,.slice af mf cf,.slice al nl cl)).toArray 85)) q.2.2 q.1.pt.last):=fun q hq=>⟨(HN.out q hq).1,(HN.out q hq).2.1,(HN.out q hq).2.2.1.below hb3,(HN.out q hq).2.2.2.below hb3⟩
   have BN:Hid (Blk (W2.alloc (.cells (lnC1 (X,.slice af mf cf,.slice al nl cl)).toArray 85)) W2.heap.size 85 (lnC1 (X,.slice af mf cf,.slice al nl cl))):=heap_alloc_new _ _;have sz3:=K3.out.lo.size;clear hb3 K2 R2 N1' N2' OWN HN;go_upto_region 6 with (at_builtin;refine wpList_append_ln rfl (.tmp 15) (.tmp 17) rfl w.heap.size _ qs rfl OWN3.out W2.heap.size (X,.slice af mf cf,.slice al nl cl) rfl BN.out lnC1_one (by omega) sz3 ?_;intro v4 w4 hown4 hgrow4)
   have L4:Hid (Lm w.heap.size w4 v4 (Pure.allLn (ls++[x])).1):=by
    have:=Lm.add OWN3.out HM.out HN3.out N1.out N2.out hown4 hgrow4;rw [HX.out] at this;rw [allLn_snoc];exact this
   have K4:=hide (K3.out.freshRow OWN3.out lr_ BL hgrow4)
   have R4:Hid (Rde B g s k1 (Pure.allLn (ls++[x])).2 x.down w4):=by
    obtain⟨vp,qs',rd⟩:=R3.out;rw [allLn_snoc];exact⟨vp,qs',rd.grownRow OWN3.out (by decide) (by decide) (by decide) hgrow4⟩
   have PL4:Hid ((Pure.allLn (ls++[x])).2.length≤k1):=by
    rw [allLn_snoc];show (Pure.part x.re (Pure.allLn ls).2).2.length≤k1;omega
   obtain⟨a4,c4,rfl,_,_⟩:=own_fm hown4;have vl:(qs++[(X,Value.slice af mf cf,Value.slice al nl cl)]).length=ls.length+1:=by simp [qn]
   rw [vl] at L4;rw [vl];clear hown4 hgrow4 OWN3 HM HN3 N1 N2 K3 R3 BN vl b0 b1 b2 b3 b4 b5 b6 b7 BX hil hl0 hl1 hl2 szw sz3;obtain⟨vp4,qs4,rd4⟩:=R4.out;have c0:=bc_ 0 rd4.rb rfl;have c1:=bc_ 1 rd4.rb rfl;clear rd4;by_cases hk:k1=s.size
   ·have e1:((k1:Int) == (s.size:Int))=true:=by simp [hk]
    have FF:Hid (Pure.Lns s 0 [] (ls++[x])):=HI.out.yes _ (.done (by rw [←hk];exact HL.out));have R5:Hid (Rde B g s s.size (Pure.allLn (ls++[x])).2 x.down w4):=by rw [←hk];exact R4.out
    clear hk R4 HI HL PL4
    go_wp2_with fail
    go_quiet (fail);go_wp2
    go_ret2
    have dn:=below_drewN (Below.refl w4.heap.size w4);exact .inl ⟨_,_,_,FF.out,rfl,L4.out.below (dn _),K4.out.trans (.below R5.out.lt (dn _)),R5.out.below (dn _)⟩
   ·have e1:((k1:Int) == (s.size:Int))=false:=by simp;omega
    go_wp2_with fail
    go_quiet (fail);have dn:=below_drewN (Below.refl w4.heap.size w4) nq;have L5:=hide (L4.out.below dn);have K5:Hid (Rk B w (w4.drewN nq)):=K4.out.trans (.below R4.out.lt dn);have R5:=hide (R4.out.below dn);clear dn L4 K4 R4 c0 c1 e1;generalize w4.drewN nq=W5 at *;by_cases h16:ls.length+1=16
    ·have e2:((ls.length:Int)+1 == 16)=true:=by simp;omega
     have FF:Hid (Pure.LnsF s 0 0 k1):=HI.out.no _ (.full HL.out hk (.inl h16));clear HI HL hk;go_wp2
     go_ret2
     exact .inr ⟨_,_,_,FF.out,rfl,K5.out,R5.out⟩
    ·have e2:((ls.length:Int)+1 == 16)=false:=by simp;omega
     obtain⟨vp5,qs5,rd5⟩:=R5.out;have TK:=hide (take_any g k1 s vp5 _ 10 W5 rd5.rb (by omega));have RD:=hide rd5;clear rd5;by_cases h10:Pure.pkb s k1=10
     ·rw [if_pos h10,decide_eq_true h10] at TK
      have klt:k1<s.size:=Pure.pkb_lt (s:=s) (i:=k1) (by rw [h10];decide);have Y2:Hid (∀all,Pure.Lns s (k1+1) (ls++[x]) all→Pure.Lns s 0 [] all):=fun all h2=>HI.out.yes _ (.more HL.out h10 (by omega) h2)
      have N2:Hid (∀k',Pure.LnsF s (k1+1) (ls++[x]).length k'→Pure.LnsF s 0 0 k'):=fun k' h2=>HI.out.no _ (.more HL.out h10 (by omega) (by simpa using h2))
      clear HI HL h10
      go_wp2_with fail
      refine TK.out.mono ?_
      clear TK;rintro e w6 ⟨rfl,hg6,hr6⟩;have rk6:=RD.out.rk hg6;have J6:Hid (LnI B g s w (k1+1) (ls++[x]) (.slice a4 (ls.length+1) c4) w6):=⟨L5.out.rk rk6,⟨_,vp5,qs5,RD.out.moved hg6 hr6⟩,K5.out.trans rk6,klt,Nat.le_succ_of_le PL4.out,Y2.out,N2.out,by simp;omega⟩;clear hg6 hr6 rk6 L5 K5 R5 RD PL4;go_wp2;go_roundg (s.size-(k1+1))
      case measure=>omega
      case rel=>exact⟨k1+1,ls++[x],rfl,J6.out⟩
     ·rw [if_neg h10,decide_eq_false h10] at TK
      have FF:Hid (Pure.LnsF s 0 0 k1):=HI.out.no _ (.full HL.out hk (.inr h10));clear HI HL h10
      go_wp2_with fail
      refine TK.out.mono ?_
      clear TK;rintro e w6 ⟨rfl,hg6,hr6⟩;have K6:=hide (K5.out.trans (RD.out.rk hg6));have R6:=hide (show Rde B g s k1 _ _ w6 from ⟨vp5,qs5,RD.out.moved hg6 hr6⟩);clear hg6 hr6 L5 K5 R5 RD PL4;go_wp2
      go_ret2
      exact .inr ⟨_,_,_,FF.out,rfl,K6.out,R6.out⟩
theorem Lm.get {B:Nat} {W:World} {v:Value} {ls:List Pure.Lp} (h:Lm B W v ls) {k:Nat} {x:Pure.Lp} (hk:ls[k]?=some x) :
  ∃g cap af mf cf al nl cl,v=.slice (some ⟨g,0,none⟩) ls.length cap∧W.rangeAt g (k*8) (lnC1 (x,.slice af mf cf,.slice al nl cl))∧Nats W (.slice af mf cf) x.pt.first∧Nats W (.slice al nl cl) x.pt.last:=by
 obtain⟨qs,h1,h2,h3⟩:=h
 have e:ls.length=qs.length:=by rw [←h2,List.length_map]
 rw [←h2,List.getElem?_map] at hk
 cases hq:qs[k]? with
 | none=>rw [hq] at hk;cases hk
 | some q=>
  rw [hq] at hk;simp only [Option.map_some,Option.some.injEq] at hk;subst hk;obtain⟨⟨af,mf,cf,e1⟩,⟨al,nl,cl,e2⟩,n1,n2⟩:=h3 q (List.mem_of_getElem? hq);have kl:k<qs.length:=(List.getElem?_eq_some_iff.1 hq).1;obtain⟨g,cap,ev,_,_⟩:=own_some h1 (by omega);subst ev;refine⟨g,cap,af,mf,cf,al,nl,cl,by rw [e],?_,by rw [←e1];exact n1,by rw [←e2];exact n2⟩;intro j u hu;have hj:j<8:=(List.getElem?_eq_some_iff.1 hu).1;have hc:=lnC_get hq hj;have eq:q=(q.1,.slice af mf cf,.slice al nl cl):=by rw [←e1,←e2]
  rw [←eq] at hu;rw [hu] at hc;exact own_cell h1 hc
theorem line_size:(Tryz.prog.info? 85).map (·.size)=some 8:=by kernel_rfl
namespace Pure
def hi1 (h:Int) (x:Lp):Int:=if (if h<x.mode then x.mode else h)<x.md then x.md else if h<x.mode then x.mode else h
def nModes (ls:List Lp):Int:=ls.foldl hi1 0+1
end Pure
theorem countModes_any (B:Nat) (v:Value) (ls:List Pure.Lp) (w:World) (h:Lm B w v ls) (_hl:ls.length≤1000) (hm:∀x∈ls,0≤x.mode∧x.mode≤1000∧0≤x.md∧x.md≤1000) :
  Calls Tryz.prog 82 #[v] w (RetVal (.int .i64 (Pure.nModes ls)) w):=by
 have hv:=h.len
 obtain⟨av,cv,rfl,hv1,hv2⟩:=hv
 have H0:=hide h
 have HM:=hide hm
 clear h hm
 go_enter Tryz.func82,Tryz.ntmps82
 go_wp2_with fail
 go_loopg [3,5,8] ls.length (fun gk hv _ kv wx=>∃(k:Nat) (hi:Int),k≤ls.length∧gk=ls.length-k∧hv=.int .i64 hi∧kv=.int .i64 k∧0≤hi∧hi≤1000∧(ls.drop k).foldl Pure.hi1 hi=ls.foldl Pure.hi1 0∧Below w.heap.size w wx)
 case atStart=>exact⟨0,0,Nat.zero_le _,rfl,rfl,rfl,by omega,by omega,rfl,Below.refl _ _⟩
 case round=>
  obtain⟨k,hi,kl,rfl,rfl,rfl,hi0,hi1,hf,hb⟩:=hrel;have HF:=hide hf;have HB:=hide hb;clear hf hb;by_cases hlt:k<ls.length
  ·have d1:=dl_ (k:Int) (ls.length:Int) (by omega)
   obtain⟨x,hx⟩:=gx_ ls k hlt;have hmx:=HM.out x (List.mem_of_getElem? hx)
   have DR:Hid ((ls.drop (k+1)).foldl Pure.hi1 (Pure.hi1 hi x)=ls.foldl Pure.hi1 0):=by
    have:=HF.out;rw [List.drop_eq_getElem?_toList_append,hx] at this;exact this
   clear HF;obtain⟨g,cap,af,mf,cf,al,nl,cl,ev,hr,_,_⟩:=(H0.out.below HB.out).get hx;cases ev;have wi:=wr_ (k:Int) (by omega) (by omega);have ik0:=nz_ k;have ik1:(k:Int)<(ls.length:Int):=by omega
   have hb2:=hide (HB.out.alloc HB.out.size (.cells (lnC1 (x,.slice af mf cf,.slice al nl cl)).toArray 85));have BX:Hid (Blk (wr.alloc (.cells (lnC1 (x,.slice af mf cf,.slice al nl cl)).toArray 85)) wr.heap.size 85 (lnC1 (x,.slice af mf cf,.slice al nl cl))):=heap_alloc_new _ _;have HR:=hide hr;clear hr hx;obtain⟨mo,em,ac,md,⟨ep,fi,la⟩,dn⟩:=x;simp only [lnC1] at hb2 BX HR;simp only at hmx;go_upto_region 5 with (refine wpList_load_mid rfl 85 (.tmp 10) rfl g (k*8) rfl _ _ HR.out Tryz.underlying85 rfl line_size ?_);have x0:=bc_ 0 BX.out rfl;have x3:=bc_ 3 BX.out rfl;clear HR BX;generalize wr.alloc (.cells #[.int .i64 mo,.int .i64 em,.int .i64 ac,.int .i64 md,.bool ep,.slice af mf cf,.slice al nl cl,.bool dn] 85)=W2 at *;simp only [Pure.hi1] at DR;by_cases c1:hi<mo
   ·have d2:decide (hi<mo)=true:=decide_eq_true c1
    rw [if_pos c1] at DR;by_cases c2:mo<md
    ·have d3:decide (mo<md)=true:=decide_eq_true c2
     rw [if_pos c2] at DR;go_wp2;go_roundg (ls.length-(k+1))
     case measure=>omega
     case rel=>exact⟨k+1,md,by omega,rfl,rfl,by go_num,by omega,by omega,DR.out,hb2.out⟩
    ·have d3:decide (mo<md)=false:=decide_eq_false c2
     rw [if_neg c2] at DR;go_wp2;go_roundg (ls.length-(k+1))
     case measure=>omega
     case rel=>exact⟨k+1,mo,by omega,rfl,rfl,by go_num,by omega,by omega,DR.out,hb2.out⟩
   ·have d2:decide (hi<mo)=false:=decide_eq_false c1
    rw [if_neg c1] at DR;by_cases c2:hi<md
    ·have d3:decide (hi<md)=true:=decide_eq_true c2
     rw [if_pos c2] at DR;go_wp2;go_roundg (ls.length-(k+1))
     case measure=>omega
     case rel=>exact⟨k+1,md,by omega,rfl,rfl,by go_num,by omega,by omega,DR.out,hb2.out⟩
    ·have d3:decide (hi<md)=false:=decide_eq_false c2
     rw [if_neg c2] at DR;go_wp2;go_roundg (ls.length-(k+1))
     case measure=>omega
     case rel=>exact⟨k+1,hi,by omega,rfl,rfl,by go_num,by omega,by omega,DR.out,hb2.out⟩
  ·have d1:=df_ (k:Int) (ls.length:Int) (by omega)
   have e:k=ls.length:=by omega
   have wi:IntKind.i64.wrap (hi+1)=hi+1:=wrap_in _ (by omega) (by omega)
   have RES:Hid (Pure.nModes ls=hi+1):=by
    have:=HF.out;rw [e,List.drop_length] at this;unfold Pure.nModes;rw [←this];rfl
   clear HF e;go_wp2;go_ret;exact⟨by rw [RES.out];rfl,HB.out⟩
end Go.Proofs.YtmccnmgaoppogaaGreat
