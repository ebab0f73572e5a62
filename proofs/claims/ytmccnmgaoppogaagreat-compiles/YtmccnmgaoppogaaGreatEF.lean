/-
 The walks: pieces. (rules)
 The walks: branches. (rules)
 The walks: patterns. (rules)
-/
import Derived.Test.YtmccnmgaoppogaaGreatEE
import Derived.Test.YtmccnmgaoppogaaGreatH1
namespace Go.Proofs.YtmccnmgaoppogaaGreat
set_option maxRecDepth 100000
set_option maxHeartbeats 8000000
open Go.RowKit
structure JS (B g:Nat) (s:ByteArray) (k:Nat) (ps:List Pure.Pl) (d:Bool) (a:Pure.Pt) (w:World) (gR gP:Nat) (W:World):Prop where
 rd:∃vp qs,Rd B g s k ps d vp qs W
 rk:Rk B w W
 r:Blk W gR 83 [.bool false,.slice none 0 0,.slice none 0 0]
 p:∃af mf cf al nl cl,Blk W gP 83 [.bool a.empty,.slice af mf cf,.slice al nl cl]∧Nats W (.slice af mf cf) a.first∧Nats W (.slice al nl cl) a.last
 ap:gR≠gP∧w.heap.size≤gR∧w.heap.size≤gP∧B≤w.heap.size
 ok:Pure.PlsOK ps∧Pure.PtOK ps.length a∧ps.length≤k
section
variable {B g:Nat} {s:ByteArray} {k j:Nat} {ps ps':List Pure.Pl} {d d':Bool} {a a':Pure.Pt} {w:World} {gR gP:Nat} {W W':World} {vp:Value} {qs:List (Pure.Pl × Value)}
theorem JS.lt (h:JS B g s k ps d a w gR gP W):B≤W.heap.size:=by
 obtain⟨vp,qs,rd⟩:=h.rd
 exact rd.lt
theorem JS.below (h:JS B g s k ps d a w gR gP W) (hb:Below W.heap.size W W'):JS B g s k ps d a w gR gP W':=by
 obtain⟨vp,qs,rd⟩:=h.rd
 obtain⟨af,mf,cf,al,nl,cl,p1,p2,p3⟩:=h.p
 exact⟨⟨vp,qs,rd.below hb⟩,h.rk.trans (.below rd.lt hb),blk_below h.r hb (blk_lt h.r),⟨af,mf,cf,al,nl,cl,blk_below p1 hb (blk_lt p1),p2.below hb,p3.below hb⟩,h.ap,h.ok⟩
theorem JS.on (h:JS B g s k ps d a w gR gP W) (rk:Rk B W W') (rd:Rd B g s j ps' d' vp qs W') (ok:Pure.PlsOK ps'∧Pure.PtOK ps'.length a∧ps'.length≤j):JS B g s j ps' d' a w gR gP W':=by
 obtain⟨af,mf,cf,al,nl,cl,p1,p2,p3⟩:=h.p
 exact⟨⟨vp,qs,rd⟩,h.rk.trans rk,rk.blk h.r (by decide) (by decide),⟨af,mf,cf,al,nl,cl,rk.blk p1 (by decide) (by decide),rk.nats p2,rk.nats p3⟩,h.ap,ok⟩
theorem JS.put (h:JS B g s k ps d a w gR gP W) {c:Bool} {af al:Option Addr} {mf cf nl cl:Nat} (pm:Pm W (.agg #[.bool c,.slice af mf cf,.slice al nl cl]) a') (oa:Pure.PtOK ps.length a'):JS B g s k ps d a' w gR gP (set3 W gP (.bool c) (.slice af mf cf) (.slice al nl cl)):=by
 obtain⟨vp,qs,rd⟩:=h.rd
 obtain⟨_,_,_,_,_,_,p1,_,_⟩:=h.p
 obtain⟨_,_,_,_,_,_,hv,n1,n2⟩:=pm
 cases hv
 have g5:=three_set W gP (.bool a'.empty) (.slice af mf cf) (.slice al nl cl)
 exact⟨⟨vp,qs,rd.far p1 (by decide) (by decide) (by decide) g5⟩,h.rk.fresh g5 h.ap.2.2.1 h.ap.2.2.2,blk_grown h.r g5 (fun e=>h.ap.1 (Option.some.inj e)),⟨af,mf,cf,al,nl,cl,three_blk p1 _ _ _,nats_grown n1 p1 (by decide) g5,nats_grown n2 p1 (by decide) g5⟩,h.ap,h.ok.1,oa,h.ok.2.2⟩
theorem JS.fin (h:JS B g s k ps d a w gR gP W):∃c af mf cf al nl cl,Blk W gP 83 [.bool c,.slice af mf cf,.slice al nl cl]∧
  (loadVar 83 ⟨gR,0,none⟩).run Tryz.prog (set3 W gR (.bool c) (.slice af mf cf) (.slice al nl cl))=.ok (.agg #[.bool c,.slice af mf cf,.slice al nl cl]) (set3 W gR (.bool c) (.slice af mf cf) (.slice al nl cl))∧
  Pm (set3 W gR (.bool c) (.slice af mf cf) (.slice al nl cl)) (.agg #[.bool c,.slice af mf cf,.slice al nl cl]) a∧Rk B w (set3 W gR (.bool c) (.slice af mf cf) (.slice al nl cl))∧∃vp qs,Rd B g s k ps d vp qs (set3 W gR (.bool c) (.slice af mf cf) (.slice al nl cl)):=by
 obtain⟨vp,qs,rd⟩:=h.rd
 obtain⟨af,mf,cf,al,nl,cl,p1,p2,p3⟩:=h.p
 obtain⟨_,_,_,_,_,_,hv,ld,pmF,rkF,rdF⟩:=fin3 h.rk rd h.r h.ap.2.1 h.ap.2.2.2 ⟨af,mf,cf,al,nl,cl,rfl,p2,p3⟩
 cases hv
 exact⟨_,_,_,_,_,_,_,p1,ld,pmF,rkF,vp,qs,rdF⟩
theorem JS.yes {nt:Pure.Nt} {nf:Pure.Nf} {i:Nat} {re:Pure.Re} {D:Bool} {d0:Bool} {ps0:List Pure.Pl} (h:JS B g s k (Pure.part re ps0).2 (d0 || D) (Pure.part re ps0).1 w gR gP W) (hP:Pure.P s nt i k re D):∃c af mf cf al nl cl,Blk W gP 83 [.bool c,.slice af mf cf,.slice al nl cl]∧
  (loadVar 83 ⟨gR,0,none⟩).run Tryz.prog (set3 W gR (.bool c) (.slice af mf cf) (.slice al nl cl))=.ok (.agg #[.bool c,.slice af mf cf,.slice al nl cl]) (set3 W gR (.bool c) (.slice af mf cf) (.slice al nl cl))∧
  RetP B g s i nt nf d0 ps0 w (.returned (.tuple #[.agg #[.bool c,.slice af mf cf,.slice al nl cl],.bool true])) (set3 W gR (.bool c) (.slice af mf cf) (.slice al nl cl)):=by
 obtain⟨c,af,mf,cf,al,nl,cl,h1,h2,h3,h4,vp,qs,h5⟩:=h.fin
 exact⟨c,af,mf,cf,al,nl,cl,h1,h2,.inl ⟨k,re,D,_,vp,qs,hP,rfl,h3,h4,h5⟩⟩
theorem JS.no {nt:Pure.Nt} {nf:Pure.Nf} {i:Nat} (d0:Bool) (ps0:List Pure.Pl) (h:JS B g s k ps d a w gR gP W) (hP:Pure.PF s nf i k) (h0:ps0.length≤ps.length):∃c af mf cf al nl cl,Blk W gP 83 [.bool c,.slice af mf cf,.slice al nl cl]∧
  (loadVar 83 ⟨gR,0,none⟩).run Tryz.prog (set3 W gR (.bool c) (.slice af mf cf) (.slice al nl cl))=.ok (.agg #[.bool c,.slice af mf cf,.slice al nl cl]) (set3 W gR (.bool c) (.slice af mf cf) (.slice al nl cl))∧
  RetP B g s i nt nf d0 ps0 w (.returned (.tuple #[.agg #[.bool c,.slice af mf cf,.slice al nl cl],.bool false])) (set3 W gR (.bool c) (.slice af mf cf) (.slice al nl cl)):=by
 obtain⟨c,af,mf,cf,al,nl,cl,h1,h2,h3,h4,vp,qs,h5⟩:=h.fin
 exact⟨c,af,mf,cf,al,nl,cl,h1,h2,.inr ⟨k,a,ps,d,_,vp,qs,hP,rfl,h3,h.ok.2.1,h.ok.1,⟨h0,h.ok.2.2⟩,h4,h5⟩⟩
theorem JS.first {i:Nat} {nt:Pure.Nt} {nf:Pure.Nf} {d0:Bool} {ps0:List Pure.Pl} {W0:World} {e:Ending} (h:RetP B g s i nt nf d0 ps0 W0 e W) (hok:Pure.PlsOK ps0) (hl:ps0.length≤i) (ht:nt.lv=0) (hx:Blk W0 gR 83 [.bool false,.slice none 0 0,.slice none 0 0]) (hr:w.heap.size≤gR) (K0:Rk B w W0) (BL:B≤w.heap.size) :
  ∃c af mf cf al nl cl ok,e=.returned (.tuple #[.agg #[.bool c,.slice af mf cf,.slice al nl cl],.bool ok])∧
   ((ok=true∧∃j re D,Pure.P s nt i j re D∧JS B g s j (Pure.part re ps0).2 (d0 || D) (Pure.part re ps0).1 w gR W.heap.size (W.alloc (.cells #[.bool c,.slice af mf cf,.slice al nl cl] 83)))∨
    (ok=false∧∃j ps' d' a,Pure.PF s nf i j∧ps0.length≤ps'.length∧JS B g s j ps' d' a w gR W.heap.size (W.alloc (.cells #[.bool c,.slice af mf cf,.slice al nl cl] 83)))):=by
 rcases h with ⟨j,re,D,v,vp,qs,hP,rfl,pm,rk,rd⟩ | ⟨j,a,ps',d',v,vp,qs,hF,rfl,pm,oa,ok,lk,rk,rd⟩
 ·obtain⟨af,mf,cf,al,nl,cl,rfl,n1,n2⟩:=pm
  have hb:=(Below.refl W.heap.size W).alloc lr_ (.cells #[.bool (Pure.part re ps0).1.empty,.slice af mf cf,.slice al nl cl] 83);have xr:=rk.blk hx (by decide) (by decide);have xl:=blk_lt xr;have sz:=(K0.trans rk).lo.size;have pok:=Pure.part_ok re ps0 hok;have plen:=Pure.part_length re ps0;have lv:=hP.leaves;rw [ht] at lv;have sz2:=Nat.le_trans hr (Nat.le_of_lt xl);exact⟨_,af,mf,cf,al,nl,cl,true,rfl,.inl ⟨rfl,j,re,D,hP,⟨vp,qs,rd.below hb⟩,(K0.trans rk).trans (.below rd.lt hb),blk_below xr hb xl,⟨af,mf,cf,al,nl,cl,heap_alloc_new _ _,n1.below hb,n2.below hb⟩,⟨by omega,hr,sz2,BL⟩,pok.2,pok.1,by omega⟩⟩
 ·obtain⟨af,mf,cf,al,nl,cl,rfl,n1,n2⟩:=pm
  have hb:=(Below.refl W.heap.size W).alloc lr_ (.cells #[.bool a.empty,.slice af mf cf,.slice al nl cl] 83);have xr:=rk.blk hx (by decide) (by decide);have xl:=blk_lt xr;have sz2:=Nat.le_trans hr (Nat.le_of_lt xl);exact⟨_,af,mf,cf,al,nl,cl,false,rfl,.inr ⟨rfl,j,ps',d',a,hF,lk.1,⟨vp,qs,rd.below hb⟩,(K0.trans rk).trans (.below rd.lt hb),blk_below xr hb xl,⟨af,mf,cf,al,nl,cl,heap_alloc_new _ _,n1.below hb,n2.below hb⟩,⟨by omega,hr,sz2,BL⟩,ok,oa,lk.2⟩⟩
end
theorem piece_any (s:ByteArray) (i:Nat) (AT:RdOK 161 .atom .atom s i) (hi:i≤s.size) (hs:s.size≤400):RdOK 154 .pc .pc s i:=by
 intro B g ps d vp qs w h hok hl
 have BL:=h.lt
 have XR:Hid (Blk (w.alloc (.cells #[.bool false,.slice none 0 0,.slice none 0 0] 83)) w.heap.size 83 [.bool false,.slice none 0 0,.slice none 0 0]):=heap_alloc_new _ _
 have H0:=hide (h.below ((Below.refl w.heap.size w).alloc lr_ (.cells #[.bool false,.slice none 0 0,.slice none 0 0] 83)))
 have K0:Hid (Rk B w (w.alloc (.cells #[.bool false,.slice none 0 0,.slice none 0 0] 83))):=.alloc BL _
 have OK:=hide hok
 have AT:=hide AT
 clear h hok
 go_enter Tryz.func154,Tryz.ntmps154
 go_wp2_with fail
 generalize w.alloc (.cells #[.bool false,.slice none 0 0,.slice none 0 0] 83)=W0 at *
 refine (AT.out B g ps d vp qs W0 H0.out OK.out hl).mono ?_
 intro e w1 hq
 obtain⟨c,af,mf,cf,al,nl,cl,ok,rfl,hjs⟩:=JS.first hq OK.out hl rfl XR.out lr_ K0.out BL
 have HJ:=hide hjs
 clear hjs hq H0 K0 XR
 go_wp2_with fail
 generalize w1.alloc (.cells #[.bool c,.slice af mf cf,.slice al nl cl] 83)=W2 at *
 generalize w1.heap.size=gP at *
 have gRl:w.heap.size≤w.heap.size:=lr_
 generalize w.heap.size=gR at *
 cases ok with
 | false=>
  rcases HJ.out with ⟨e,_⟩ | ⟨_,j,ps',d',a,hF,hpl,js⟩
  ·cases e
  ·clear HJ
   obtain⟨c2,af2,mf2,cf2,al2,nl2,cl2,p1,ld,FIN⟩:=js.no (nt:=.pc) d ps (.pc hF) hpl;have JX:=hide js.r;have FIN:=hide FIN;clear js;have z0:=bc_ 0 JX.out rfl;have z1:=bc_ 1 JX.out rfl;have z2:=bc_ 2 JX.out rfl;have f0:=blk_frozen JX.out 0;have f1:=blk_frozen JX.out 1;have f2:=blk_frozen JX.out 2;have p2:=bc_ 0 p1 rfl;have p3:=bc_ 1 p1 rfl;have p4:=bc_ 2 p1 rfl;clear p1
   go_loopg [6] 0 (fun _ _ wx=>wx=W2)
   case atStart=>rfl
   case round=>
    subst hrel;go_wp2;exact bodyPost_ret (by simp [results,Tryz.results154,asAddr,Result.andThen,ld]) rfl FIN.out
 | true=>
  rcases HJ.out with ⟨_,j,re,D,hP,js⟩ | ⟨e,_⟩
  ·have jl:j≤s.size:=hP.le hi 2 (.inl ⟨trivial,.inl rfl⟩)
   clear HJ;have I0:Hid (∃k re' D',k≤s.size∧s.size-j=s.size-k∧JS B g s k (Pure.part re' ps).2 (d || D') (Pure.part re' ps).1 w gR gP W2∧∀k' b D2,Pure.P s (.pcR re' D') k k' b D2→Pure.P s .pc i k' b D2):=⟨j,re,D,jl,rfl,js,fun k' b D2 h2=>.pc hP h2⟩;clear hP js
   go_loopg [6] (s.size-j) (fun gk _ wx=>∃k re' D',k≤s.size∧gk=s.size-k∧JS B g s k (Pure.part re' ps).2 (d || D') (Pure.part re' ps).1 w gR gP wx∧∀k' b D2,Pure.P s (.pcR re' D') k k' b D2→Pure.P s .pc i k' b D2)
   case atStart=>exact I0.out
   case round=>
    clear I0;obtain⟨k,re',D',kl,rfl,js,hstep⟩:=hrel;obtain⟨vp1,qs1,rd⟩:=js.rd;have PK:=hide (peek_any g k s vp1 (d || D') wr rd.rb);have J1:=hide js;have ST:=hide hstep;clear js rd hstep
    go_wp2_with fail
    refine PK.out.mono ?_
    clear PK;rintro e w2 ⟨rfl,hb2⟩;have J2:=hide (J1.out.below hb2);clear hb2 J1;by_cases hst:Pure.pkb s k=42∨Pure.pkb s k=43∨Pure.pkb s k=63
    ·have klt:k<s.size:=Pure.pkb_lt (s:=s) (i:=k) (by rcases hst with h | h | h <;> rw [h] <;> decide)
     have hre:Hid (∃re2,Pure.part re2 ps=Pure.repeated (Pure.part re' ps).1 (Pure.pkb s k) (Pure.part re' ps).2∧∀k' b D2,Pure.P s (.pcR re2 D') (k+1) k' b D2→Pure.P s .pc i k' b D2):=by
      rcases hst with h | h | h
      ·exact⟨.star re',by rw [h];rfl,fun k' b D2 h2=>ST.out _ _ _ (.star h h2)⟩
      ·exact⟨.plus re',by rw [h];rfl,fun k' b D2 h2=>ST.out _ _ _ (.plus h h2)⟩
      ·exact⟨.opt re',by rw [h];rfl,fun k' b D2 h2=>ST.out _ _ _ (.opt h h2)⟩
     obtain⟨vp2,qs2,rd2⟩:=J2.out.rd;have c1:=bc_ 1 rd2.rb rfl;have f1:=blk_frozen rd2.rb 1;have wi:=wr_ (k:Int) (by omega) (by omega);have hg3:=Lib.grownBy_setCell w2 g 1 (.int .i64 ((k:Int)+1));have rd3:Rd B g s (k+1) (Pure.part re' ps).2 (d || D') vp2 qs2 (w2.setCell ⟨g,1,none⟩ (.int .i64 ((k:Int)+1))):=rd2.moved hg3 (rd2.rb.at (k+1));have J3:=hide (J2.out.on (rd2.rk hg3) rd3 ⟨J2.out.ok.1,J2.out.ok.2.1,Nat.le_succ_of_le J2.out.ok.2.2⟩);have R3:=hide rd3;clear rd2 rd3 hg3 J2 ST;generalize Pure.pkb s k=b at *;obtain⟨af2,mf2,cf2,al2,nl2,cl2,p1,m1,m2⟩:=J3.out.p;have p2:=bc_ 0 p1 rfl;have p3:=bc_ 1 p1 rfl;have p4:=bc_ 2 p1 rfl;have PM:=hide (show Pm _ _ (Pure.part re' ps).1 from ⟨af2,mf2,cf2,al2,nl2,cl2,rfl,m1,m2⟩);have plen:=J3.out.ok.2.2;clear p1 m1 m2;have ROK:=hide (Pure.repeated_ok b J3.out.ok.2.1 J3.out.ok.1);have RLN:=hide (Pure.repeated_length (Pure.part re' ps).1 b (Pure.part re' ps).2);rcases hst with h | h | h
     all_goals
      subst h;obtain⟨re2,hre2,hst2⟩:=hre.out;have HE:=hide hre2;have HS:=hide hst2;clear hre hre2 hst2
      go_wp2_with fail
      clear c1 f1;generalize w2.setCell ⟨g,1,none⟩ (.int .i64 ((k:Int)+1))=W3 at *;refine (repeated_any B g (k+1) s _ _ vp2 qs2 _ _ _ W3 R3.out J3.out.ok.1 (by omega) PM.out J3.out.ok.2.1 (by decide)).mono ?_
      rintro e w4 ⟨v4,vp4,qs4,rfl,pm4,rk4,rd4⟩;rw [←HE.out] at pm4 rd4;have rok:=ROK.out;have rlen:=RLN.out;rw [←HE.out] at rok rlen;have J4:=hide (J3.out.on rk4 rd4 ⟨rok.2,by rw [rlen];exact J3.out.ok.2.1,by rw [rlen];exact plen⟩);obtain⟨af4,mf4,cf4,al4,nl4,cl4,rfl,m1,m2⟩:=pm4;have J5:=hide (J4.out.put (a':=(Pure.part re2 ps).1) ⟨af4,mf4,cf4,al4,nl4,cl4,rfl,m1,m2⟩ (by rw [rlen];exact rok.1));clear m1 m2 rk4 rd4 rok rlen p2 p3 p4 J3;obtain⟨_,_,_,_,_,_,q1,_,_⟩:=J4.out.p;have p2:=bc_ 0 q1 rfl;have p3:=bc_ 1 q1 rfl;have p4:=bc_ 2 q1 rfl;have f2:=blk_frozen q1 0;have f3:=blk_frozen q1 1;have f4:=blk_frozen q1 2;clear q1 J4;go_wp2;go_roundg (s.size-(k+1))
      case measure=>omega
      case rel=>exact⟨k+1,re2,D',klt,rfl,J5.out,HS.out⟩
    ·have hst':=hst
     have FP:=hide (ST.out k re' D' (.pcR0 (fun e=>hst (.inl e)) (fun e=>hst (.inr (.inl e))) (fun e=>hst (.inr (.inr e)))));generalize Pure.pkb s k=b at *;have n1:(b != 42)=true:=by simp;omega
     have n2:(b != 43)=true:=by simp;omega
     have n3:(b != 63)=true:=by simp;omega
     obtain⟨c2,af2,mf2,cf2,al2,nl2,cl2,p1,ld,FIN⟩:=JS.yes (nf:=.pc) J2.out FP.out;have JX:=hide J2.out.r;have FIN:=hide FIN;have z0:=bc_ 0 JX.out rfl;have z1:=bc_ 1 JX.out rfl;have z2:=bc_ 2 JX.out rfl;have f0:=blk_frozen JX.out 0;have f1:=blk_frozen JX.out 1;have f2:=blk_frozen JX.out 2;have p2:=bc_ 0 p1 rfl;have p3:=bc_ 1 p1 rfl;have p4:=bc_ 2 p1 rfl;clear p1;go_wp2;exact bodyPost_ret (by simp [results,Tryz.results154,asAddr,Result.andThen,ld]) rfl FIN.out
  ·cases e
structure BrI (B g:Nat) (s:ByteArray) (i:Nat) (d:Bool) (ps:List Pure.Pl) (w:World) (gR gP:Nat) (gk:Nat) (ok:Bool) (W:World):Prop where
 yes:ok=true→∃k re D,k≤s.size∧gk=s.size-k+1∧i≤k∧JS B g s k (Pure.part re ps).2 (d || D) (Pure.part re ps).1 w gR gP W∧(∀k' b D2,Pure.P s (.brR re D) k k' b D2→Pure.P s .br i k' b D2)∧(∀k',Pure.PF s .brR k k'→Pure.PF s .br i k')
 no:ok=false→∃k ps' d' a,Pure.PF s .br i k∧ps.length≤ps'.length∧gk=0∧JS B g s k ps' d' a w gR gP W
section
variable {B g:Nat} {s:ByteArray} {k j:Nat} {ps ps':List Pure.Pl} {d d':Bool} {a a':Pure.Pt} {w:World} {gR gP gQ:Nat} {W W' W'':World}
theorem JS.box (h:JS B g s k ps d a w gR gP W) {c:Bool} {af al:Option Addr} {mf cf nl cl:Nat} (pm:Pm W (.agg #[.bool c,.slice af mf cf,.slice al nl cl]) a') :
  JS B g s k ps d a w gR gP (W.alloc (.cells #[.bool c,.slice af mf cf,.slice al nl cl] 83))∧Blk (W.alloc (.cells #[.bool c,.slice af mf cf,.slice al nl cl] 83)) W.heap.size 83 [.bool c,.slice af mf cf,.slice al nl cl]∧Pm (W.alloc (.cells #[.bool c,.slice af mf cf,.slice al nl cl] 83)) (.agg #[.bool c,.slice af mf cf,.slice al nl cl]) a':=by
 have hb:=(Below.refl W.heap.size W).alloc lr_ (.cells #[.bool c,.slice af mf cf,.slice al nl cl] 83)
 exact⟨h.below hb,heap_alloc_new _ _,pm.below hb⟩
end
theorem branch_any (s:ByteArray) (i:Nat) (PC:∀k,i≤k→k≤s.size→RdOK 154 .pc .pc s k) (hi:i≤s.size) (hs:s.size≤400):RdOK 150 .br .br s i:=by
 intro B g ps d vp qs w h hok hl
 have BL:=h.lt
 have XR:Hid (Blk (w.alloc (.cells #[.bool false,.slice none 0 0,.slice none 0 0] 83)) w.heap.size 83 [.bool false,.slice none 0 0,.slice none 0 0]):=heap_alloc_new _ _
 have H0:=hide (h.below ((Below.refl w.heap.size w).alloc lr_ (.cells #[.bool false,.slice none 0 0,.slice none 0 0] 83)))
 have K0:Hid (Rk B w (w.alloc (.cells #[.bool false,.slice none 0 0,.slice none 0 0] 83))):=.alloc BL _
 have OK:=hide hok
 have PC:=hide PC
 clear h hok
 go_enter Tryz.func150,Tryz.ntmps150
 go_wp2_with fail
 generalize w.alloc (.cells #[.bool false,.slice none 0 0,.slice none 0 0] 83)=W0 at *
 refine (PC.out i lr_ hi B g ps d vp qs W0 H0.out OK.out hl).mono ?_
 intro e w1 hq
 obtain⟨c,af,mf,cf,al,nl,cl,ok,rfl,hjs⟩:=JS.first hq OK.out hl rfl XR.out lr_ K0.out BL
 have HJ:Hid (∃gk,BrI B g s i d ps w w.heap.size w1.heap.size gk ok (w1.alloc (.cells #[.bool c,.slice af mf cf,.slice al nl cl] 83))):=by
  rcases hjs with ⟨rfl,j,re,D,hP,js⟩ | ⟨rfl,j,ps',d',a,hF,hpl,js⟩
  ·exact⟨_,fun _=>⟨j,re,D,hP.le hi 2 (.inl ⟨trivial,.inl rfl⟩),rfl,hP.leaves.2,js,fun k' b D2 h2=>.br hP h2,fun k' h2=>.br2 hP h2⟩,fun e=>by cases e⟩
  ·exact⟨0,fun e=>(by cases e),fun _=>⟨j,ps',d',a,.br1 hF,hpl,rfl,js⟩⟩
 clear hjs hq H0 K0 XR
 go_wp2_with fail
 generalize w1.alloc (.cells #[.bool c,.slice af mf cf,.slice al nl cl] 83)=W2 at *
 generalize w1.heap.size=gP at *
 generalize w.heap.size=gR at *
 obtain⟨gk0,hbi⟩:=HJ.out
 clear HJ
 go_loopg [5,6,7] gk0 (fun gk okv _ _ wx=>∃okb,okv=.bool okb∧BrI B g s i d ps w gR gP gk okb wx)
 case atStart=>exact⟨ok,rfl,hbi⟩
 case round=>
  clear hbi;obtain⟨okb,rfl,hI⟩:=hrel
  cases okb with
  | false=>
   obtain⟨k,ps',d',a,hF,hpl,hgk,js⟩:=hI.no rfl;clear hI;obtain⟨c2,af2,mf2,cf2,al2,nl2,cl2,p1,ld,FIN⟩:=js.no (nt:=.br) d ps hF hpl;have JX:=hide js.r;have FIN:=hide FIN;clear js hF hgk;have z0:=bc_ 0 JX.out rfl;have z1:=bc_ 1 JX.out rfl;have z2:=bc_ 2 JX.out rfl;have f0:=blk_frozen JX.out 0;have f1:=blk_frozen JX.out 1;have f2:=blk_frozen JX.out 2;have p2:=bc_ 0 p1 rfl;have p3:=bc_ 1 p1 rfl;have p4:=bc_ 2 p1 rfl;clear p1;go_wp2;exact bodyPost_ret (by simp [results,Tryz.results150,asAddr,Result.andThen,ld]) rfl FIN.out
  | true=>
   obtain⟨k,re,D,kl,rfl,ik,js,hst,hsf⟩:=hI.yes rfl;clear hI;obtain⟨vp1,qs1,rd⟩:=js.rd;have PK:=hide (peek_any g k s vp1 (d || D) wr rd.rb);have J1:=hide js;have ST:=hide hst;have SF:=hide hsf;clear js rd hst hsf
   go_wp2_with fail
   refine PK.out.mono ?_
   clear PK;rintro e w2 ⟨rfl,hb2⟩;have J2:=hide (J1.out.below hb2);clear hb2 J1
   go_wp2_with fail
   refine (beginsAtom_any (Pure.pkb s k) w2).mono ?_
   rintro e w3 ⟨rfl,hb3⟩;have J3:=hide (J2.out.below hb3);clear hb3 J2;by_cases hbeg:Pure.BegAtom (Pure.pkb s k)
   ·rw [decide_eq_true hbeg]
    obtain⟨vp3,qs3,rd3⟩:=J3.out.rd;have CALL:=hide (PC.out k ik kl B g _ _ vp3 qs3 w3 rd3 J3.out.ok.1 J3.out.ok.2.2);clear rd3
    go_wp2_with fail
    refine CALL.out.mono ?_
    clear CALL;rintro e w4 (⟨j,re2,D2,v,vp4,qs4,hP,rfl,pm,rk,rd⟩ | ⟨j,a2,ps2,d2,v,vp4,qs4,hF,rfl,pm,oa,ok2,lk,rk,rd⟩)
    ·have jl:j≤s.size:=hP.le kl 2 (.inl ⟨trivial,.inl rfl⟩)
     have lv:=hP.leaves;simp only [Pure.Nt.lv] at lv;have jk:k<j:=by have:=Pure.Re.leaves_pos re2;omega
     have pok:=Pure.part_ok re2 _ J3.out.ok.1;have plen:=Pure.part_length re2 (Pure.part re ps).2;have hlk:=J3.out.ok.2.2;have oa3:=J3.out.ok.2.1.mono (show (Pure.part re ps).2.length≤(Pure.part re2 (Pure.part re ps).2).2.length by omega);have J4:=J3.out.on rk rd ⟨pok.2,oa3,by omega⟩;obtain⟨af2,mf2,cf2,al2,nl2,cl2,rfl,n1,n2⟩:=pm;obtain⟨J5,XQ,PMQ⟩:=J4.box (a':=(Pure.part re2 (Pure.part re ps).2).1) ⟨af2,mf2,cf2,al2,nl2,cl2,rfl,n1,n2⟩;have rd5:=rd.below ((Below.refl w4.heap.size w4).alloc lr_ (.cells #[.bool (Pure.part re2 (Pure.part re ps).2).1.empty,.slice af2 mf2 cf2,.slice al2 nl2 cl2] 83));have J5:=hide J5;have R5:=hide rd5;have PMQ:=hide PMQ;have q2:=bc_ 0 XQ rfl;have q3:=bc_ 1 XQ rfl;have q4:=bc_ 2 XQ rfl;obtain⟨af3,mf3,cf3,al3,nl3,cl3,p1,m1,m2⟩:=J5.out.p;have p2:=bc_ 0 p1 rfl;have p3:=bc_ 1 p1 rfl;have p4:=bc_ 2 p1 rfl;have PM:=hide (show Pm _ _ (Pure.part re ps).1 from ⟨af3,mf3,cf3,al3,nl3,cl3,rfl,m1,m2⟩);have OA:=hide oa3;have OK2:=hide pok;have HP:=hide hP;have TOK:=hide (Pure.inTurn_ok oa3 pok.1 pok.2);clear J3 J4 rd rk n1 n2 rd5 XQ p1 m1 m2 oa3 pok hP
     go_wp2_with fail
     generalize w4.alloc (.cells #[.bool (Pure.part re2 (Pure.part re ps).2).1.empty,.slice af2 mf2 cf2,.slice al2 nl2 cl2] 83)=W5 at *;refine (inTurn_any B g j s _ _ vp4 qs4 _ _ _ _ W5 R5.out OK2.out.2 (by omega) PM.out PMQ.out OA.out OK2.out.1).mono ?_
     clear p2 p3 p4 q2 q3 q4;rintro e w6 ⟨v6,vp6,qs6,rfl,pm6,rk6,rd6⟩;have rlen:(Pure.inTurn (Pure.part re ps).1 (Pure.part re2 (Pure.part re ps).2).1 (Pure.part re2 (Pure.part re ps).2).2).2.length=(Pure.part re2 (Pure.part re ps).2).2.length:=Pure.leads_length _ _ _;have J6:=hide (J5.out.on rk6 rd6 ⟨TOK.out.2,by rw [rlen];exact OA.out,by rw [rlen];omega⟩);obtain⟨af6,mf6,cf6,al6,nl6,cl6,rfl,m1,m2⟩:=pm6;have J7:=hide (J6.out.put (a':=(Pure.part (.cat re re2) ps).1) ⟨af6,mf6,cf6,al6,nl6,cl6,rfl,m1,m2⟩ (by rw [rlen];exact TOK.out.1));have DD:Hid (((d || D) || D2)=(d || (D || D2))):=Bool.or_assoc _ _ _;have ST2:Hid (∀k' b D3,Pure.P s (.brR (.cat re re2) (D || D2)) j k' b D3→Pure.P s .br i k' b D3):=fun k' b D3 h2=>ST.out _ _ _ (.brR hbeg HP.out h2)
     have SF2:Hid (∀k',Pure.PF s .brR j k'→Pure.PF s .br i k'):=fun k' h2=>SF.out _ (.brR2 hbeg HP.out h2)
     clear m1 m2 rk6 rd6 rlen J5 ST SF HP hbeg;obtain⟨_,_,_,_,_,_,q1,_,_⟩:=J6.out.p;have p2:=bc_ 0 q1 rfl;have p3:=bc_ 1 q1 rfl;have p4:=bc_ 2 q1 rfl;have f2:=blk_frozen q1 0;have f3:=blk_frozen q1 1;have f4:=blk_frozen q1 2;clear q1 J6;go_wp2;go_roundg (s.size-j+1)
     case measure=>omega
     case rel=>exact⟨true,rfl,fun _=>⟨j,.cat re re2,D || D2,jl,rfl,by omega,by rw [←DD.out];exact J7.out,ST2.out,SF2.out⟩,fun e=>by cases e⟩
    ·have hlk:=J3.out.ok.2.2
     have plen:=Pure.part_length re ps;have oa3:=J3.out.ok.2.1.mono lk.1;have J4:=J3.out.on rk rd ⟨ok2,oa3,lk.2⟩;obtain⟨af2,mf2,cf2,al2,nl2,cl2,rfl,n1,n2⟩:=pm;obtain⟨J5,XQ,PMQ⟩:=J4.box (a':=a2) ⟨af2,mf2,cf2,al2,nl2,cl2,rfl,n1,n2⟩;have rd5:=rd.below ((Below.refl w4.heap.size w4).alloc lr_ (.cells #[.bool a2.empty,.slice af2 mf2 cf2,.slice al2 nl2 cl2] 83));have J5:=hide J5;have R5:=hide rd5;have PMQ:=hide PMQ;have q2:=bc_ 0 XQ rfl;have q3:=bc_ 1 XQ rfl;have q4:=bc_ 2 XQ rfl;obtain⟨af3,mf3,cf3,al3,nl3,cl3,p1,m1,m2⟩:=J5.out.p;have p2:=bc_ 0 p1 rfl;have p3:=bc_ 1 p1 rfl;have p4:=bc_ 2 p1 rfl;have PM:=hide (show Pm _ _ (Pure.part re ps).1 from ⟨af3,mf3,cf3,al3,nl3,cl3,rfl,m1,m2⟩);have OA:=hide oa3;have OK2:=hide (And.intro oa ok2);have FF:Hid (Pure.PF s .br i j):=SF.out _ (.brR1 hbeg hF);have TOK:=hide (Pure.inTurn_ok oa3 oa ok2);have jl:j≤s.size:=hF.le kl 2 (.inl rfl);clear J3 J4 rd rk n1 n2 rd5 XQ p1 m1 m2 oa3 oa ok2 hF ST SF hbeg
     go_wp2_with fail
     generalize w4.alloc (.cells #[.bool a2.empty,.slice af2 mf2 cf2,.slice al2 nl2 cl2] 83)=W5 at *;refine (inTurn_any B g j s _ _ vp4 qs4 _ _ _ _ W5 R5.out OK2.out.2 (by omega) PM.out PMQ.out OA.out OK2.out.1).mono ?_
     clear p2 p3 p4 q2 q3 q4;rintro e w6 ⟨v6,vp6,qs6,rfl,pm6,rk6,rd6⟩;have rlen:(Pure.inTurn (Pure.part re ps).1 a2 ps2).2.length=ps2.length:=Pure.leads_length _ _ _;have J6:=hide (J5.out.on rk6 rd6 ⟨TOK.out.2,by rw [rlen];exact OA.out,by rw [rlen];omega⟩);obtain⟨af6,mf6,cf6,al6,nl6,cl6,rfl,m1,m2⟩:=pm6;have J7:=hide (J6.out.put (a':=(Pure.inTurn (Pure.part re ps).1 a2 ps2).1) ⟨af6,mf6,cf6,al6,nl6,cl6,rfl,m1,m2⟩ (by rw [rlen];exact TOK.out.1));have PL:Hid (ps.length≤(Pure.inTurn (Pure.part re ps).1 a2 ps2).2.length):=by show _≤_;rw [rlen];omega
     clear m1 m2 rk6 rd6 rlen J5;obtain⟨_,_,_,_,_,_,q1,_,_⟩:=J6.out.p;have p2:=bc_ 0 q1 rfl;have p3:=bc_ 1 q1 rfl;have p4:=bc_ 2 q1 rfl;have f2:=blk_frozen q1 0;have f3:=blk_frozen q1 1;have f4:=blk_frozen q1 2;clear q1 J6;go_wp2;go_roundg 0
     case measure=>omega
     case rel=>exact⟨false,rfl,fun e=>(by cases e),fun _=>⟨j,_,_,_,FF.out,PL.out,rfl,J7.out⟩⟩
   ·rw [decide_eq_false hbeg]
    have FP:=ST.out k re D (.brR0 hbeg);obtain⟨c2,af2,mf2,cf2,al2,nl2,cl2,p1,ld,FIN⟩:=JS.yes (nf:=.br) J3.out FP;have JX:=hide J3.out.r;have FIN:=hide FIN;clear FP hbeg;have z0:=bc_ 0 JX.out rfl;have z1:=bc_ 1 JX.out rfl;have z2:=bc_ 2 JX.out rfl;have f0:=blk_frozen JX.out 0;have f1:=blk_frozen JX.out 1;have f2:=blk_frozen JX.out 2;have p2:=bc_ 0 p1 rfl;have p3:=bc_ 1 p1 rfl;have p4:=bc_ 2 p1 rfl;clear p1;go_wp2;exact bodyPost_ret (by simp [results,Tryz.results150,asAddr,Result.andThen,ld]) rfl FIN.out
structure PaI (B g:Nat) (s:ByteArray) (i:Nat) (d:Bool) (ps:List Pure.Pl) (w:World) (gR gP:Nat) (gk:Nat) (ok:Bool) (W:World):Prop where
 yes:ok=true→∃k re D,k≤s.size∧gk=s.size-k+1∧i≤k∧JS B g s k (Pure.part re ps).2 (d || D) (Pure.part re ps).1 w gR gP W∧(∀k' b D2,Pure.P s (.paR re D) k k' b D2→Pure.P s .pa i k' b D2)∧(∀k',Pure.PF s .paR k k'→Pure.PF s .pa i k')
 no:ok=false→∃k ps' d' a,Pure.PF s .pa i k∧ps.length≤ps'.length∧gk=0∧JS B g s k ps' d' a w gR gP W
theorem pattern_any (s:ByteArray) (i:Nat) (PC:∀k,i≤k→k≤s.size→RdOK 150 .br .br s k) (hi:i≤s.size) (hs:s.size≤400):RdOK 140 .pa .pa s i:=by
 intro B g ps d vp qs w h hok hl
 have BL:=h.lt
 have XR:Hid (Blk (w.alloc (.cells #[.bool false,.slice none 0 0,.slice none 0 0] 83)) w.heap.size 83 [.bool false,.slice none 0 0,.slice none 0 0]):=heap_alloc_new _ _
 have H0:=hide (h.below ((Below.refl w.heap.size w).alloc lr_ (.cells #[.bool false,.slice none 0 0,.slice none 0 0] 83)))
 have K0:Hid (Rk B w (w.alloc (.cells #[.bool false,.slice none 0 0,.slice none 0 0] 83))):=.alloc BL _
 have OK:=hide hok
 have PC:=hide PC
 clear h hok
 go_enter Tryz.func140,Tryz.ntmps140
 go_wp2_with fail
 generalize w.alloc (.cells #[.bool false,.slice none 0 0,.slice none 0 0] 83)=W0 at *
 refine (PC.out i lr_ hi B g ps d vp qs W0 H0.out OK.out hl).mono ?_
 intro e w1 hq
 obtain⟨c,af,mf,cf,al,nl,cl,ok,rfl,hjs⟩:=JS.first hq OK.out hl rfl XR.out lr_ K0.out BL
 have HJ:Hid (∃gk,PaI B g s i d ps w w.heap.size w1.heap.size gk ok (w1.alloc (.cells #[.bool c,.slice af mf cf,.slice al nl cl] 83))):=by
  rcases hjs with ⟨rfl,j,re,D,hP,js⟩ | ⟨rfl,j,ps',d',a,hF,hpl,js⟩
  ·exact⟨_,fun _=>⟨j,re,D,hP.le hi 2 (.inl ⟨trivial,.inl rfl⟩),rfl,hP.leaves.2,js,fun k' b D2 h2=>.pa hP h2,fun k' h2=>.pa2 hP h2⟩,fun e=>by cases e⟩
  ·exact⟨0,fun e=>(by cases e),fun _=>⟨j,ps',d',a,.pa1 hF,hpl,rfl,js⟩⟩
 clear hjs hq H0 K0 XR
 go_wp2_with fail
 generalize w1.alloc (.cells #[.bool c,.slice af mf cf,.slice al nl cl] 83)=W2 at *
 generalize w1.heap.size=gP at *
 generalize w.heap.size=gR at *
 obtain⟨gk0,hbi⟩:=HJ.out
 clear HJ
 go_loopg [5,6,7] gk0 (fun gk okv _ _ wx=>∃okb,okv=.bool okb∧PaI B g s i d ps w gR gP gk okb wx)
 case atStart=>exact⟨ok,rfl,hbi⟩
 case round=>
  clear hbi;obtain⟨okb,rfl,hI⟩:=hrel
  cases okb with
  | false=>
   obtain⟨k,ps',d',a,hF,hpl,hgk,js⟩:=hI.no rfl;clear hI;obtain⟨c2,af2,mf2,cf2,al2,nl2,cl2,p1,ld,FIN⟩:=js.no (nt:=.pa) d ps hF hpl;have JX:=hide js.r;have FIN:=hide FIN;clear js hF hgk;have z0:=bc_ 0 JX.out rfl;have z1:=bc_ 1 JX.out rfl;have z2:=bc_ 2 JX.out rfl;have f0:=blk_frozen JX.out 0;have f1:=blk_frozen JX.out 1;have f2:=blk_frozen JX.out 2;have p2:=bc_ 0 p1 rfl;have p3:=bc_ 1 p1 rfl;have p4:=bc_ 2 p1 rfl;clear p1;go_wp2;exact bodyPost_ret (by simp [results,Tryz.results140,asAddr,Result.andThen,ld]) rfl FIN.out
  | true=>
   obtain⟨k,re,D,kl,rfl,ik,js,hst,hsf⟩:=hI.yes rfl;clear hI;obtain⟨vp1,qs1,rd⟩:=js.rd;have TK:=hide (take_any g k s vp1 (d || D) 124 wr rd.rb (by omega));have R1:=hide rd;have J1:=hide js;have ST:=hide hst;have SF:=hide hsf;clear js rd hst hsf;by_cases hbeg:Pure.pkb s k=124
   ·rw [if_pos hbeg,decide_eq_true hbeg] at TK
    have klt:k<s.size:=Pure.pkb_lt (s:=s) (i:=k) (by rw [hbeg];decide)
    go_wp2_with fail
    refine TK.out.mono ?_
    clear TK;rintro e w3 ⟨rfl,hg3,hr3⟩;have J3:=hide (J1.out.on (R1.out.rk hg3) (R1.out.moved hg3 hr3) ⟨J1.out.ok.1,J1.out.ok.2.1,Nat.le_succ_of_le J1.out.ok.2.2⟩);clear hg3 hr3 J1 R1;obtain⟨vp3,qs3,rd3⟩:=J3.out.rd;have CALL:=hide (PC.out (k+1) (by omega) klt B g _ _ vp3 qs3 w3 rd3 J3.out.ok.1 J3.out.ok.2.2);clear rd3
    go_wp2_with fail
    refine CALL.out.mono ?_
    clear CALL;rintro e w4 (⟨j,re2,D2,v,vp4,qs4,hP,rfl,pm,rk,rd⟩ | ⟨j,a2,ps2,d2,v,vp4,qs4,hF,rfl,pm,oa,ok2,lk,rk,rd⟩)
    ·have jl:j≤s.size:=hP.le klt 2 (.inl ⟨trivial,.inl rfl⟩)
     have lv:=hP.leaves;simp only [Pure.Nt.lv] at lv;have jk:k<j:=by have:=Pure.Re.leaves_pos re2;omega
     have pok:=Pure.part_ok re2 _ J3.out.ok.1;have plen:=Pure.part_length re2 (Pure.part re ps).2;have hlk:=J3.out.ok.2.2;have oa3:=J3.out.ok.2.1.mono (show (Pure.part re ps).2.length≤(Pure.part re2 (Pure.part re ps).2).2.length by omega);have J4:=J3.out.on rk rd ⟨pok.2,oa3,by omega⟩;obtain⟨af2,mf2,cf2,al2,nl2,cl2,rfl,n1,n2⟩:=pm;obtain⟨J5,XQ,PMQ⟩:=J4.box (a':=(Pure.part re2 (Pure.part re ps).2).1) ⟨af2,mf2,cf2,al2,nl2,cl2,rfl,n1,n2⟩;have rd5:=rd.below ((Below.refl w4.heap.size w4).alloc lr_ (.cells #[.bool (Pure.part re2 (Pure.part re ps).2).1.empty,.slice af2 mf2 cf2,.slice al2 nl2 cl2] 83));have J5:=hide J5;have R5:=hide rd5;have PMQ:=hide PMQ;have q2:=bc_ 0 XQ rfl;have q3:=bc_ 1 XQ rfl;have q4:=bc_ 2 XQ rfl;obtain⟨af3,mf3,cf3,al3,nl3,cl3,p1,m1,m2⟩:=J5.out.p;have p2:=bc_ 0 p1 rfl;have p3:=bc_ 1 p1 rfl;have p4:=bc_ 2 p1 rfl;have PM:=hide (show Pm _ _ (Pure.part re ps).1 from ⟨af3,mf3,cf3,al3,nl3,cl3,rfl,m1,m2⟩);have OA:=hide oa3;have OK2:=hide pok;have HP:=hide hP;have TOK:=hide (Pure.either_ok oa3 pok.1);have rl:=rd5.lt;clear J3 J4 rd rk n1 n2 rd5 XQ p1 m1 m2 oa3 pok hP
     go_wp2_with fail
     generalize w4.alloc (.cells #[.bool (Pure.part re2 (Pure.part re ps).2).1.empty,.slice af2 mf2 cf2,.slice al2 nl2 cl2] 83)=W5 at *;refine (either_any _ _ _ _ W5 PM.out PMQ.out (Pure.part re2 (Pure.part re ps).2).2.length (by omega) OA.out OK2.out.1).mono ?_
     clear p2 p3 p4 q2 q3 q4;rintro e w6 ⟨v6,rfl,pm6,hb6⟩;have J6:=hide (J5.out.below hb6);obtain⟨af6,mf6,cf6,al6,nl6,cl6,rfl,m1,m2⟩:=pm6;have J7:=hide (J6.out.put (a':=(Pure.part (.alt re re2) ps).1) ⟨af6,mf6,cf6,al6,nl6,cl6,rfl,m1,m2⟩ TOK.out);have DD:Hid (((d || D) || D2)=(d || (D || D2))):=Bool.or_assoc _ _ _;have ST2:Hid (∀k' b D3,Pure.P s (.paR (.alt re re2) (D || D2)) j k' b D3→Pure.P s .pa i k' b D3):=fun k' b D3 h2=>ST.out _ _ _ (.paR hbeg HP.out h2)
     have SF2:Hid (∀k',Pure.PF s .paR j k'→Pure.PF s .pa i k'):=fun k' h2=>SF.out _ (.paR2 hbeg HP.out h2)
     clear m1 m2 hb6 J5 ST SF HP hbeg;obtain⟨_,_,_,_,_,_,q1,_,_⟩:=J6.out.p;have p2:=bc_ 0 q1 rfl;have p3:=bc_ 1 q1 rfl;have p4:=bc_ 2 q1 rfl;have f2:=blk_frozen q1 0;have f3:=blk_frozen q1 1;have f4:=blk_frozen q1 2;clear q1 J6;go_wp2;go_roundg (s.size-j+1)
     case measure=>omega
     case rel=>exact⟨true,rfl,fun _=>⟨j,.alt re re2,D || D2,jl,rfl,by omega,by rw [←DD.out];exact J7.out,ST2.out,SF2.out⟩,fun e=>by cases e⟩
    ·have hlk:=J3.out.ok.2.2
     have plen:=Pure.part_length re ps;have oa3:=J3.out.ok.2.1.mono lk.1;have J4:=J3.out.on rk rd ⟨ok2,oa3,lk.2⟩;obtain⟨af2,mf2,cf2,al2,nl2,cl2,rfl,n1,n2⟩:=pm;obtain⟨J5,XQ,PMQ⟩:=J4.box (a':=a2) ⟨af2,mf2,cf2,al2,nl2,cl2,rfl,n1,n2⟩;have rd5:=rd.below ((Below.refl w4.heap.size w4).alloc lr_ (.cells #[.bool a2.empty,.slice af2 mf2 cf2,.slice al2 nl2 cl2] 83));have J5:=hide J5;have R5:=hide rd5;have PMQ:=hide PMQ;have q2:=bc_ 0 XQ rfl;have q3:=bc_ 1 XQ rfl;have q4:=bc_ 2 XQ rfl;obtain⟨af3,mf3,cf3,al3,nl3,cl3,p1,m1,m2⟩:=J5.out.p;have p2:=bc_ 0 p1 rfl;have p3:=bc_ 1 p1 rfl;have p4:=bc_ 2 p1 rfl;have PM:=hide (show Pm _ _ (Pure.part re ps).1 from ⟨af3,mf3,cf3,al3,nl3,cl3,rfl,m1,m2⟩);have OA:=hide oa3;have OK2:=hide (And.intro oa ok2);have FF:Hid (Pure.PF s .pa i j):=SF.out _ (.paR1 hbeg hF);have TOK:=hide (Pure.either_ok oa3 oa);have jl:j≤s.size:=hF.le klt 2 (.inl rfl);have PL:Hid (ps.length≤ps2.length):=by show _≤_;omega
     clear J3 J4 rd rk n1 n2 rd5 XQ p1 m1 m2 oa3 oa ok2 hF ST SF hbeg
     go_wp2_with fail
     generalize w4.alloc (.cells #[.bool a2.empty,.slice af2 mf2 cf2,.slice al2 nl2 cl2] 83)=W5 at *;refine (either_any _ _ _ _ W5 PM.out PMQ.out ps2.length (by omega) OA.out OK2.out.1).mono ?_
     clear p2 p3 p4 q2 q3 q4;rintro e w6 ⟨v6,rfl,pm6,hb6⟩;have J6:=hide (J5.out.below hb6);obtain⟨af6,mf6,cf6,al6,nl6,cl6,rfl,m1,m2⟩:=pm6;have J7:=hide (J6.out.put (a':=Pure.either (Pure.part re ps).1 a2) ⟨af6,mf6,cf6,al6,nl6,cl6,rfl,m1,m2⟩ TOK.out);clear m1 m2 hb6 J5;obtain⟨_,_,_,_,_,_,q1,_,_⟩:=J6.out.p;have p2:=bc_ 0 q1 rfl;have p3:=bc_ 1 q1 rfl;have p4:=bc_ 2 q1 rfl;have f2:=blk_frozen q1 0;have f3:=blk_frozen q1 1;have f4:=blk_frozen q1 2;clear q1 J6;go_wp2;go_roundg 0
     case measure=>omega
     case rel=>exact⟨false,rfl,fun e=>(by cases e),fun _=>⟨j,_,_,_,FF.out,PL.out,rfl,J7.out⟩⟩
   ·rw [if_neg hbeg,decide_eq_false hbeg] at TK
    go_wp2_with fail
    refine TK.out.mono ?_
    clear TK;rintro e w3 ⟨rfl,hg3,hr3⟩;have J3:=hide (J1.out.on (R1.out.rk hg3) (R1.out.moved hg3 hr3) J1.out.ok);clear hg3 hr3 J1 R1;have FP:=ST.out k re D (.paR0 hbeg);obtain⟨c2,af2,mf2,cf2,al2,nl2,cl2,p1,ld,FIN⟩:=JS.yes (nf:=.pa) J3.out FP;have JX:=hide J3.out.r;have FIN:=hide FIN;clear FP hbeg;have z0:=bc_ 0 JX.out rfl;have z1:=bc_ 1 JX.out rfl;have z2:=bc_ 2 JX.out rfl;have f0:=blk_frozen JX.out 0;have f1:=blk_frozen JX.out 1;have f2:=blk_frozen JX.out 2;have p2:=bc_ 0 p1 rfl;have p3:=bc_ 1 p1 rfl;have p4:=bc_ 2 p1 rfl;clear p1;go_wp2;exact bodyPost_ret (by simp [results,Tryz.results140,asAddr,Result.andThen,ld]) rfl FIN.out
theorem pattern_all (s:ByteArray) (hs:s.size≤400):∀i,i≤s.size→RdOK 140 .pa .pa s i:=by
 have key:∀n i,i≤s.size→s.size-i≤n→RdOK 140 .pa .pa s i:=by
  intro n
  induction n with
  | zero=>
   intro i hi hn;exact pattern_any s i (fun k hk kl=>branch_any s k (fun k' hk' kl'=>piece_any s k' (atom_any s k' (fun hlt=>by omega) kl' hs) kl' hs) kl hs) hi hs
  | succ n ih=>
   intro i hi hn;exact pattern_any s i (fun k hk kl=>branch_any s k (fun k' hk' kl'=>piece_any s k' (atom_any s k' (fun hlt=>ih (k'+1) hlt (by omega)) kl' hs) kl' hs) kl hs) hi hs
 exact fun i hi=>key _ i hi lr_
end Go.Proofs.YtmccnmgaoppogaaGreat
