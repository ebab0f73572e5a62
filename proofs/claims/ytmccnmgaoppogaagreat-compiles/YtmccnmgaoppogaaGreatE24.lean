/-
 The walks: a text is read. (rules)
-/
import Derived.Test.YtmccnmgaoppogaaGreatEG
namespace Go.Proofs.YtmccnmgaoppogaaGreat
set_option maxRecDepth 100000
set_option maxHeartbeats 8000000
open Go.RowKit
namespace Pure
def FirstL (f:Ln→Bool) (all:List Ln) (i:Nat):Prop:=(∃x,all[i]?=some x∧f x=true)∧∀j x,j<i→all[j]?=some x→f x=false
def NoL (f:Ln→Bool) (all:List Ln):Prop:=∀x∈all,f x=false
def dnL (x:Ln):Bool:=x.down
def emL (x:Ln):Bool:=x.re.empt
end Pure
def Plm (B:Nat) (W:World) (v:Value) (ps:List Pure.Pl):Prop:=∃qs,W.ownsRow B 235 257 v qs.length (plC qs)∧qs.map (·.1)=ps∧∀q∈qs,Nats W q.2 q.1.next
abbrev textZ:Value:=.agg #[.int .i64 0,.slice none 0 0,.slice none 0 0]
def RdText (s:ByteArray) (w w':World) (v:Value) (en no:Int):Prop:=
 (300<s.size∧v=textZ∧en=9∧no=0)∨
 (s.size≤300∧∃k,Pure.LnsF s 0 0 k∧v=textZ∧en=10∧no=k)∨
 (s.size≤300∧∃all,Pure.Lns s 0 [] all∧
  ((∃i,Pure.FirstL Pure.dnL all i∧v=textZ∧en=11∧no=i)∨
   (Pure.NoL Pure.dnL all∧∃i,Pure.FirstL Pure.emL all i∧v=textZ∧en=12∧no=i)∨
   (Pure.NoL Pure.dnL all∧Pure.NoL Pure.emL all∧∃al nl cl ap np cp,v=.agg #[.int .i64 (Pure.nModes (Pure.allLn all).1),.slice al nl cl,.slice ap np cp]∧en=0∧no=0∧Lm w.heap.size w' (.slice al nl cl) (Pure.allLn all).1∧Plm w.heap.size w' (.slice ap np cp) (Pure.allLn all).2)))
def RetText (s:ByteArray) (w:World) (e:Ending) (w':World):Prop:=∃v en no,e=.returned (.tuple #[v,.int .i64 en,.int .i64 no])∧Below w.heap.size w w'∧RdText s w w' v en no
theorem text_load {W:World} {g:Nat} {a b c:Value} (h:Blk W g 78 [a,b,c]):(loadVar 78 ⟨g,0,none⟩).run Tryz.prog W=.ok (.agg #[a,b,c]) W:=
 run_loadVar_mid W g 0 78 [a,b,c] _ (blk_range h) Tryz.underlying78 rfl (by kernel_rfl)
theorem Lm.mono {B B':Nat} {W:World} {v:Value} {ls:List Pure.Lp} (h:Lm B W v ls) (hb:B'≤B):Lm B' W v ls:=by
 obtain⟨qs,h1,h2,h3⟩:=h
 exact⟨qs,own_mono h1 hb,h2,h3⟩
theorem Lm.grown {B g t:Nat} {W W':World} {v:Value} {ls:List Pure.Lp} {xs:List Value} (h:Lm B W v ls) (hb:Blk W g t xs) (h1:t≠85) (h2:t≠3) (hg:W.grownBy W' (some g)):Lm B W' v ls:=by
 obtain⟨qs,k1,k2,k3⟩:=h
 exact⟨qs,row_apart k1 hb h1 hg,k2,fun q hq=>⟨(k3 q hq).1,(k3 q hq).2.1,nats_grown (k3 q hq).2.2.1 hb h2 hg,nats_grown (k3 q hq).2.2.2 hb h2 hg⟩⟩
theorem Rd.plm {B g i:Nat} {s:ByteArray} {ps:List Pure.Pl} {d:Bool} {vp:Value} {qs:List (Pure.Pl × Value)} {W:World} (h:Rd B g s i ps d vp qs W):Plm B W vp ps:=⟨qs,h.own,h.ps,h.nx⟩
theorem Plm.grown {B g t:Nat} {W W':World} {v:Value} {ps:List Pure.Pl} {xs:List Value} (h:Plm B W v ps) (hb:Blk W g t xs) (h1:t≠235) (h2:t≠3) (hg:W.grownBy W' (some g)):Plm B W' v ps:=by
 obtain⟨qs,k1,k2,k3⟩:=h
 exact⟨qs,row_apart k1 hb h1 hg,k2,fun q hq=>nats_grown (k3 q hq) hb h2 hg⟩
theorem Plm.below {B:Nat} {W W':World} {v:Value} {ps:List Pure.Pl} (h:Plm B W v ps) (hb:Below W.heap.size W W'):Plm B W' v ps:=by
 obtain⟨qs,k1,k2,k3⟩:=h
 exact⟨qs,own_below k1 hb lr_,k2,fun q hq=>(k3 q hq).below hb⟩
structure TX (s:ByteArray) (w:World) (gR g:Nat) (all:List Pure.Ln) (v:Value) (W:World):Prop where
 be:Below w.heap.size w W
 r:Blk W gR 78 [.int .i64 0,.slice none 0 0,.slice none 0 0]
 lm:Lm w.heap.size W v (Pure.allLn all).1
 rd:∃d,Rde w.heap.size g s s.size (Pure.allLn all).2 d W
 ap:w.heap.size≤gR
section
variable {s:ByteArray} {w:World} {gR g:Nat} {all:List Pure.Ln} {v:Value} {W W':World}
theorem TX.below (h:TX s w gR g all v W) (hb:Below W.heap.size W W'):TX s w gR g all v W':=by
 obtain⟨d,rd⟩:=h.rd
 exact⟨bel0 h.be hb,blk_below h.r hb (blk_lt h.r),h.lm.below hb,⟨d,rd.below hb⟩,h.ap⟩
theorem text_fin {x y z:Value} (be:Below w.heap.size w W) (r:Blk W gR 78 [x,y,z]) (hr:w.heap.size≤gR) (a b c:Value) :
  (loadVar 78 ⟨gR,0,none⟩).run Tryz.prog (set3 W gR a b c)=.ok (.agg #[a,b,c]) (set3 W gR a b c)∧Below w.heap.size w (set3 W gR a b c):=
 ⟨text_load (three_blk r _ _ _),be.grown (three_set W gR a b c) be.size (fun k e=>by cases e;exact hr)⟩
end
namespace Pure
theorem FirstL.skip {f:Ln→Bool} {all:List Ln} {k:Nat} {x:Ln} (h:∀j y,j<k→all[j]?=some y→f y=false) (hx:all[k]?=some x) (hf:f x=false):∀j y,j<k+1→all[j]?=some y→f y=false:=by
 intro j y hj hy
 by_cases e:j=k
 ·subst e
  rw [hx] at hy;cases hy;exact hf
 ·exact h j y (by omega) hy
theorem NoL.of {f:Ln→Bool} {all:List Ln} (h:∀j y,j<all.length→all[j]?=some y→f y=false):NoL f all:=by
 intro x hx
 obtain⟨j,hj⟩:=List.getElem?_of_mem hx
 exact h j x (List.getElem?_eq_some_iff.1 hj).1 hj
theorem allLn_get (all:List Ln) {k:Nat} {x:Ln} (h:all[k]?=some x):∃pt,(allLn all).1[k]?=some (x.lp pt)∧pt.empty=x.re.empt:=by
 obtain⟨pt,h1,_,_,_,h5⟩:=(allLn_lin all).get k x h
 exact⟨pt,h1,h5⟩
def LnB (x:Ln):Prop:=0≤x.mode∧x.mode≤3∧0≤x.md∧x.md≤3∧0≤x.emit∧x.emit≤1∧0≤x.act∧x.act≤3∧(x.act=1∨x.act=2∨x.md=0)
theorem LnP.bd {s:ByteArray} {i k:Nat} {x:Ln} (h:LnP s i k x):LnB x:=by
 cases h with
 | mk h1 _ _ _ h5=>
  unfold LnB Letter at *
  cases h5 with
  | plain a _ _ _=>unfold EmitB at a;simp only;refine⟨by omega,by omega,by omega,by omega,by omega,by omega,by omega,by omega,?_⟩;simp
  | pop a _=>unfold EmitB at a;simp only;refine⟨by omega,by omega,by omega,by omega,by omega,by omega,by omega,by omega,?_⟩;simp
  | «to» a _ b=>unfold EmitB at a;unfold Letter at b;simp only;refine⟨by omega,by omega,by omega,by omega,by omega,by omega,by omega,by omega,?_⟩;simp
  | push a _ b=>unfold EmitB at a;unfold Letter at b;simp only;refine⟨by omega,by omega,by omega,by omega,by omega,by omega,by omega,by omega,?_⟩;simp
theorem Lns.bd {s:ByteArray} {i:Nat} {ls all:List Ln} (h:Lns s i ls all):(∀x∈ls,LnB x)→∀x∈all,LnB x:=by
 induction h with
 | done h1=>
  intro k x hx;rcases List.mem_append.1 hx with h | h
  ·exact k x h
  ·simp at h
   subst h;exact h1.bd
 | more h1 _ _ _ ih=>
  intro k;refine ih (fun x hx=>?_);rcases List.mem_append.1 hx with h | h
  ·exact k x h
  ·simp at h
   subst h;exact h1.bd
theorem Lns.count {s:ByteArray} {i:Nat} {ls all:List Ln} (h:Lns s i ls all):ls.length<16→1≤all.length∧all.length≤16:=by
 induction h with
 | done _=>intro k;simp;omega
 | more _ _ h3 _ ih=>intro _;exact ih (by simp;omega)
theorem Lns.bds {s:ByteArray} {all:List Ln} (h:Lns s 0 [] all):(∀x∈all,LnB x)∧1≤all.length∧all.length≤16:=⟨h.bd (fun x hx=>by simp at hx),h.count (by decide)⟩
theorem allLn_bd {all:List Ln} (h:∀x∈all,LnB x):∀x∈(allLn all).1,0≤x.mode∧x.mode≤1000∧0≤x.md∧x.md≤1000:=by
 intro y hy
 obtain⟨k,hk⟩:=List.getElem?_of_mem hy
 have kl:k<all.length:=by rw [←(allLn_lin all).n];exact (List.getElem?_eq_some_iff.1 hk).1
 have hx:=List.getElem?_eq_getElem kl
 obtain⟨pt,h1,_⟩:=allLn_get all hx
 rw [hk] at h1
 cases h1
 have:=h _ (List.getElem_mem kl)
 unfold LnB at this
 simp only [Ln.lp]
 omega
end Pure
theorem rulesRead_any (s:ByteArray) (w:World):Calls Tryz.prog 53 #[.string s] w (RetText s w):=by
 have TB:=hide (heap_alloc_new w (.cells #[.int .i64 0,.slice none 0 0,.slice none 0 0] 78))
 have B0:Hid (Below w.heap.size w (w.alloc (.cells #[.int .i64 0,.slice none 0 0,.slice none 0 0] 78))):=(Below.refl w.heap.size w).alloc lr_ _
 go_enter Tryz.func53,Tryz.ntmps53
 by_cases hs:300<s.size
 ·have d1:=dl_ (300:Int) (s.size:Int) (by omega)
  have ld:=text_load TB.out;have FF:Hid (RdText s w (w.alloc (.cells #[.int .i64 0,.slice none 0 0,.slice none 0 0] 78)) textZ 9 0):=.inl ⟨hs,rfl,rfl,rfl⟩;go_wp2;exact bodyPost_ret (by simp [results,Tryz.results53,asAddr,Result.andThen,ld]) rfl ⟨_,_,_,rfl,B0.out,FF.out⟩
 ·have d1:=df_ (300:Int) (s.size:Int) (by omega)
  have b1:Below w.heap.size w ((w.alloc (.cells #[.int .i64 0,.slice none 0 0,.slice none 0 0] 78)).alloc (.cells #[.string s,.int .i64 0,.slice none 0 0,.bool false] 184)):=B0.out.alloc (by simp) _;have TB1:Hid (Blk ((w.alloc (.cells #[.int .i64 0,.slice none 0 0,.slice none 0 0] 78)).alloc (.cells #[.string s,.int .i64 0,.slice none 0 0,.bool false] 184)) w.heap.size 78 [.int .i64 0,.slice none 0 0,.slice none 0 0]):=blk_alloc TB.out _
  have RB1:Hid (Rde w.heap.size (w.heap.size+1) s 0 [] false ((w.alloc (.cells #[.int .i64 0,.slice none 0 0,.slice none 0 0] 78)).alloc (.cells #[.string s,.int .i64 0,.slice none 0 0,.bool false] 184))):=by
   have h2:=heap_alloc_new (w.alloc (.cells #[.int .i64 0,.slice none 0 0,.slice none 0 0] 78)) (.cells #[.string s,.int .i64 0,.slice none 0 0,.bool false] 184);rw [World.size_alloc] at h2;exact⟨.slice none 0 0,[],h2,by omega,own_nil _ _ _ _,rfl,fun q hq=>by simp at hq⟩
  have B1:=hide b1;clear b1 B0 TB
  go_wp2_with fail
  generalize (w.alloc (.cells #[.int .i64 0,.slice none 0 0,.slice none 0 0] 78)).alloc (.cells #[.string s,.int .i64 0,.slice none 0 0,.bool false] 184)=W1 at *;generalize w.heap.size+1=g at *;refine (lines_any w.heap.size g s false W1 RB1.out (by omega)).mono ?_
  rintro e w2 (⟨all,v,d,hL,rfl,lm,rk,rd⟩ | ⟨k,ps',d',hF,rfl,rk,rd⟩)
  ·have bd:=hL.bds
   have LLN:Hid ((Pure.allLn all).1.length=all.length):=allLn_len all;obtain⟨av,cv,rfl,hv1,hv2⟩:=lm.len;rw [LLN.out] at lm hv1;rw [LLN.out];have T2a:Hid (TX s w w.heap.size g all (.slice av all.length cv) w2):=⟨B1.out.trans rk.lo,rk.blk TB1.out (by decide) (by decide),lm.mono B1.out.size,⟨d,rd⟩,lr_⟩;have HL:=hide hL;have hs3:s.size≤300:=by omega
   clear lm rk rd hL B1 TB1 RB1
   go_wp2_with fail
   go_loopg [8,9,29] all.length (fun gk _ _ kv wx=>∃k:Nat,k≤all.length∧gk=all.length-k∧kv=.int .i64 k∧TX s w w.heap.size g all (.slice av all.length cv) wx∧∀j y,j<k→all[j]?=some y→Pure.dnL y=false)
   case atStart=>exact⟨0,Nat.zero_le _,rfl,rfl,T2a.out,fun j y hj=>by omega⟩
   case round=>
    clear T2a;obtain⟨k,kl,rfl,rfl,hT,hN⟩:=hrel;have HT:=hide hT;have HN:=hide hN;clear hT hN;by_cases hlt:k<all.length
    ·have d1:=dl_ (k:Int) (all.length:Int) (by omega)
     obtain⟨x,hx⟩:=gx_ all k hlt;obtain⟨pt,hpt,hem⟩:=Pure.allLn_get all hx;obtain⟨gv,cap,af,mf,cf,al,nl,cl,ev,hr,_,_⟩:=HT.out.lm.get hpt;rw [LLN.out] at ev;cases ev;have wi:=wr_ (k:Int) (by omega) (by omega);have ik0:=nz_ k;have ik1:(k:Int)<(all.length:Int):=by omega
     have T2:=hide (HT.out.below ((Below.refl wr.heap.size wr).alloc lr_ (.cells (lnC1 (x.lp pt,.slice af mf cf,.slice al nl cl)).toArray 85)));have BX:Hid (Blk (wr.alloc (.cells (lnC1 (x.lp pt,.slice af mf cf,.slice al nl cl)).toArray 85)) wr.heap.size 85 (lnC1 (x.lp pt,.slice af mf cf,.slice al nl cl))):=heap_alloc_new _ _;have HR:=hide hr;have FX:Hid (x.down=Pure.dnL x):=rfl;have HX:=hide hx;clear hr hx hpt hem HT;simp only [lnC1,Pure.Ln.lp] at T2 BX HR;go_upto_region 10 with (refine wpList_load_mid rfl 85 (.tmp 32) rfl gv (k*8) rfl _ _ HR.out Tryz.underlying85 rfl line_size ?_);generalize wr.alloc (.cells #[.int .i64 x.mode,.int .i64 x.emit,.int .i64 x.act,.int .i64 x.md,.bool pt.empty,.slice af mf cf,.slice al nl cl,.bool x.down] 85)=W2 at *;have x7:=bc_ 7 BX.out rfl
     cases hd:x.down with
     | true=>
      rw [hd] at x7;have FF:Hid (∀W,RdText s w W textZ 11 k):=fun W=>.inr (.inr ⟨hs3,all,HL.out,.inl ⟨k,⟨⟨x,HX.out,by rw [←FX.out];exact hd⟩,HN.out⟩,rfl,rfl,rfl⟩⟩)
      have TT:=T2;clear T2 FX HN HX BX;obtain⟨ld,bF⟩:=text_fin TT.out.be TT.out.r TT.out.ap (.int .i64 0) (.slice none 0 0) (.slice none 0 0);have BF:=hide bF;have z0:=bc_ 0 TT.out.r rfl;have z1:=bc_ 1 TT.out.r rfl;have z2:=bc_ 2 TT.out.r rfl;have f0:=blk_frozen TT.out.r 0;have f1:=blk_frozen TT.out.r 1;have f2:=blk_frozen TT.out.r 2;clear bF;go_wp2;exact bodyPost_ret (by simp [results,Tryz.results53,asAddr,Result.andThen,ld]) rfl ⟨_,_,_,rfl,BF.out,FF.out _⟩
     | false=>
      rw [hd] at x7;have N2:=hide (Pure.FirstL.skip HN.out HX.out (by rw [←FX.out];exact hd));clear FX HN HX BX;go_wp2;go_roundg (all.length-(k+1))
      case measure=>omega
      case rel=>exact⟨k+1,by omega,rfl,by go_num,T2.out,N2.out⟩
    ·have d1:=df_ (k:Int) (all.length:Int) (by omega)
     have e:k=all.length:=by omega
     have ND:=hide (Pure.NoL.of (f:=Pure.dnL) (by rw [←e];exact HN.out));clear e HN;have T2b:=HT;have NDD:=ND;clear HT ND
     go_wp2_with fail
     go_loopg [10,11,41] all.length (fun gk _ _ kv wx=>∃k:Nat,k≤all.length∧gk=all.length-k∧kv=.int .i64 k∧TX s w w.heap.size g all (.slice av all.length cv) wx∧∀j y,j<k→all[j]?=some y→Pure.emL y=false)
     case atStart=>exact⟨0,Nat.zero_le _,rfl,rfl,T2b.out,fun j y hj=>by omega⟩
     case round=>
      clear T2b;obtain⟨k,kl,rfl,rfl,hT,hN⟩:=hrel;have HT:=hide hT;have HN:=hide hN;clear hT hN;by_cases hlt:k<all.length
      ·have d1:=dl_ (k:Int) (all.length:Int) (by omega)
       obtain⟨x,hx⟩:=gx_ all k hlt;obtain⟨pt,hpt,hem⟩:=Pure.allLn_get all hx;obtain⟨gv,cap,af,mf,cf,al,nl,cl,ev,hr,_,_⟩:=HT.out.lm.get hpt;rw [LLN.out] at ev;cases ev;have wi:=wr_ (k:Int) (by omega) (by omega);have ik0:=nz_ k;have ik1:(k:Int)<(all.length:Int):=by omega
       have T2:=hide (HT.out.below ((Below.refl wr.heap.size wr).alloc lr_ (.cells (lnC1 (x.lp pt,.slice af mf cf,.slice al nl cl)).toArray 85)));have BX:Hid (Blk (wr.alloc (.cells (lnC1 (x.lp pt,.slice af mf cf,.slice al nl cl)).toArray 85)) wr.heap.size 85 (lnC1 (x.lp pt,.slice af mf cf,.slice al nl cl))):=heap_alloc_new _ _;have HR:=hide hr;have FX:Hid (pt.empty=Pure.emL x):=hem;have HX:=hide hx;clear hr hx hpt hem HT;simp only [lnC1,Pure.Ln.lp] at T2 BX HR;go_upto_region 16 with (refine wpList_load_mid rfl 85 (.tmp 44) rfl gv (k*8) rfl _ _ HR.out Tryz.underlying85 rfl line_size ?_);generalize wr.alloc (.cells #[.int .i64 x.mode,.int .i64 x.emit,.int .i64 x.act,.int .i64 x.md,.bool pt.empty,.slice af mf cf,.slice al nl cl,.bool x.down] 85)=W2 at *;have x7:=bc_ 4 BX.out rfl
       cases hd:pt.empty with
       | true=>
        rw [hd] at x7;have FF:Hid (∀W,RdText s w W textZ 12 k):=fun W=>.inr (.inr ⟨hs3,all,HL.out,.inr (.inl ⟨NDD.out,k,⟨⟨x,HX.out,by rw [←FX.out];exact hd⟩,HN.out⟩,rfl,rfl,rfl⟩)⟩)
        have TT:=T2;clear T2 FX HN HX BX;obtain⟨ld,bF⟩:=text_fin TT.out.be TT.out.r TT.out.ap (.int .i64 0) (.slice none 0 0) (.slice none 0 0);have BF:=hide bF;have z0:=bc_ 0 TT.out.r rfl;have z1:=bc_ 1 TT.out.r rfl;have z2:=bc_ 2 TT.out.r rfl;have f0:=blk_frozen TT.out.r 0;have f1:=blk_frozen TT.out.r 1;have f2:=blk_frozen TT.out.r 2;clear bF;go_wp2;exact bodyPost_ret (by simp [results,Tryz.results53,asAddr,Result.andThen,ld]) rfl ⟨_,_,_,rfl,BF.out,FF.out _⟩
       | false=>
        rw [hd] at x7;have N2:=hide (Pure.FirstL.skip HN.out HX.out (by rw [←FX.out];exact hd));clear FX HN HX BX;go_wp2;go_roundg (all.length-(k+1))
        case measure=>omega
        case rel=>exact⟨k+1,by omega,rfl,by go_num,T2.out,N2.out⟩
      ·have d1:=df_ (k:Int) (all.length:Int) (by omega)
       have e:k=all.length:=by omega
       have ND:=hide (Pure.NoL.of (f:=Pure.emL) (by rw [←e];exact HN.out));clear e HN;obtain⟨d5,vp5,qs5,rd5⟩:=HT.out.rd;obtain⟨ap,cp,rfl,_,_⟩:=own_fm rd5.own;have c2:wr.drew.cell? ⟨g,2,none⟩=some (.slice ap qs5.length cp):=blk_cell (j:=2) rd5.rb rfl;have T3:=hide (HT.out.below (Below.refl wr.heap.size wr).drew);have RD:=hide (rd5.below (Below.refl wr.heap.size wr).drew);have CM:=hide (countModes_any w.heap.size _ _ wr.drew T3.out.lm (by rw [LLN.out];omega) (Pure.allLn_bd bd.1));clear rd5 HT
       go_wp2_with fail
       refine wp_region_held_drew (S:=fun w'=>w'.cell? ⟨g,2,none⟩=some (.slice ap qs5.length cp)) (by kernel_rfl) c2 (fun hHeld=>?_);refine wpAnyH_take (i:=0) (v:=?v0) rfl (by kernel_rfl) (by kernel_rfl) (by kernel_rfl) (fun _ _ _ h=>h) (Or.inl ⟨by rfl,?hy0⟩) (by assumption) ?rest0
       case hy0=>(intro w hSw;(try dsimp only at hSw);go_simp;try (with_reducible rfl))
       simp only [List.getElem_toArray,List.getElem_cons_zero,Act.put,List.setIfInBounds_toArray,List.set_cons_zero,List.set_cons_succ];refine wpAnyH_take (i:=2) (v:=?v2) rfl (by kernel_rfl) (by kernel_rfl) (by kernel_rfl) (fun _ _ _ h=>h) (Or.inl ⟨by rfl,?hy2⟩) (by assumption) ?rest2
       case hy2=>(intro w hSw;(try dsimp only at hSw);go_simp;try (with_reducible rfl))
       simp only [tk_,Act.put];refine wpAnyH_take (i:=3) (v:=?v3) rfl (by kernel_rfl) (by kernel_rfl) (by kernel_rfl) (fun _ _ _ h=>h) (Or.inl ⟨by rfl,?hy3⟩) (by assumption) ?rest3
       case hy3=>(intro w hSw;(try dsimp only at hSw);go_simp;try (with_reducible rfl))
       simp only [tk_,Act.put];refine wpAnyH_take (i:=4) (v:=?v4) rfl (by kernel_rfl) (by kernel_rfl) (by kernel_rfl) (fun _ _ _ h=>h) (Or.inl ⟨by rfl,?hy4⟩) (by assumption) ?rest4
       case hy4=>(intro w hSw;(try dsimp only at hSw);go_simp;try (with_reducible rfl))
       simp only [tk_,Act.put];refine wpAnyH_ready (rs:=[1]) (by kernel_rfl) (by simp) ?_
       refine AllReadyH.cons rfl (fun K hK=>?_) AllReadyH.nil
       go_simp
       refine CM.out.mono ?_
       clear CM;rintro e w6 ⟨rfl,hb6⟩;have T6:=hide (T3.out.below hb6);have R6:=hide (RD.out.below hb6);have c26:=bc_ 2 R6.out.rb rfl;clear hb6 T3 RD c2;refine hK.out _ _ c26 (fun hHeld2=>?_);clear hK K
       try simp only [tk_,Act.put]
       refine wpAnyH_take (i:=5) (v:=?v5) rfl (by kernel_rfl) (by kernel_rfl) (by kernel_rfl) (fun _ _ _ h=>h) (Or.inl ⟨by rfl,?hy5⟩) (by assumption) ?rest5
       case hy5=>(intro w hSw;(try dsimp only at hSw);go_simp;try (with_reducible rfl))
       simp only [tk_,Act.put];refine wpAnyH_ready (rs:=[6]) (by kernel_rfl) (by simp) ?_
       refine AllReadyH.cons rfl (fun K hK=>?_) AllReadyH.nil;obtain⟨ld,bF⟩:=text_fin T6.out.be T6.out.r T6.out.ap (.int .i64 (Pure.nModes (Pure.allLn all).1)) (.slice av all.length cv) (.slice ap qs5.length cp);have g6:=three_set w6 w.heap.size (.int .i64 (Pure.nModes (Pure.allLn all).1)) (.slice av all.length cv) (.slice ap qs5.length cp);have FF:Hid (RdText s w (set3 w6 w.heap.size (.int .i64 (Pure.nModes (Pure.allLn all).1)) (.slice av all.length cv) (.slice ap qs5.length cp)) (.agg #[.int .i64 (Pure.nModes (Pure.allLn all).1),.slice av all.length cv,.slice ap qs5.length cp]) 0 0):=.inr (.inr ⟨hs3,all,HL.out,.inr (.inr ⟨NDD.out,ND.out,_,_,_,_,_,_,rfl,rfl,rfl,T6.out.lm.grown T6.out.r (by decide) (by decide) g6,R6.out.plm.grown T6.out.r (by decide) (by decide) g6⟩)⟩);have c27:(set3 w6 w.heap.size (.int .i64 (Pure.nModes (Pure.allLn all).1)) (.slice av all.length cv) (.slice ap qs5.length cp)).cell? ⟨g,2,none⟩=some (.slice ap qs5.length cp):=blk_cell (j:=2) (blk_grown R6.out.rb g6 (fun e=>blk_ne2 R6.out.rb T6.out.r (by decide) (Option.some.inj e))) rfl;have BF:=hide bF;clear bF g6;refine step_store_midE rfl 78 (.tmp 2) (.tmp 57) rfl w.heap.size 0 #[.int .i64 (Pure.nModes (Pure.allLn all).1),.slice av all.length cv,.slice ap qs5.length cp] rfl rfl (by have:=blk_there T6.out.r;exact this) (by kernel_rfl) (by simp [Value.oneCell']) ?_
       refine hK.out _ _ c27 (fun hHeld3=>?_);clear hK K T6 R6
       try simp only [List.getElem_toArray,List.getElem_cons_succ,List.getElem_cons_zero,Act.put]
       refine wpAnyH_ready (rs:=[7]) (by kernel_rfl) (by simp) ?_
       refine AllReadyH.cons rfl (fun K hK=>?_) AllReadyH.nil
       go_simp
       refine hK.out _ _ hHeld3 (fun hHeld4=>?_);clear hK K
       try simp only [tk_,Act.put]
       refine wpAnyH_ready (rs:=[8]) (by kernel_rfl) (by simp) ?_
       refine AllReadyH.cons rfl (fun K hK=>?_) AllReadyH.nil
       go_simp
       refine hK.out _ _ hHeld3 (fun hHeld5=>?_);clear hK K;refine wpAnyH_done (by kernel_rfl) ?_ _;clear hHeld hHeld2 hHeld3 hHeld4 hHeld5 c27 c26;have ld:(loadVar 78 ⟨w.heap.size,0,none⟩).run Tryz.prog (w6.setCells w.heap.size 0 [.int .i64 (Pure.nModes (Pure.allLn all).1),.slice av all.length cv,.slice ap qs5.length cp])=.ok (.agg #[.int .i64 (Pure.nModes (Pure.allLn all).1),.slice av all.length cv,.slice ap qs5.length cp]) (w6.setCells w.heap.size 0 [.int .i64 (Pure.nModes (Pure.allLn all).1),.slice av all.length cv,.slice ap qs5.length cp]):=ld;go_wp2;exact bodyPost_ret (by simp [results,Tryz.results53,asAddr,Result.andThen,ld]) rfl ⟨_,_,_,rfl,BF.out,FF.out⟩
  ·have TB2:=hide (rk.blk TB1.out (by decide) (by decide))
   have BE2:=hide (B1.out.trans rk.lo);have FF:Hid (∀W,RdText s w W textZ 10 k):=fun W=>.inr (.inl ⟨by omega,k,hF,rfl,rfl,rfl⟩)
   obtain⟨vp2,qs2,rd2⟩:=rd;have c1:=bc_ 1 rd2.rb rfl;have z0:=bc_ 0 TB2.out rfl;have z1:=bc_ 1 TB2.out rfl;have z2:=bc_ 2 TB2.out rfl;have f0:=blk_frozen TB2.out 0;have f1:=blk_frozen TB2.out 1;have f2:=blk_frozen TB2.out 2;have ne1:g≠w.heap.size:=blk_ne2 rd2.rb TB2.out (by decide);have ne2:w.heap.size≠g:=fun e=>ne1 e.symm
   obtain⟨_,bF⟩:=text_fin (gR:=w.heap.size) BE2.out TB2.out lr_ (.int .i64 0) (.slice none 0 0) (.slice none 0 0);have ld:=text_load (W:=(set3 w2 w.heap.size (.int .i64 0) (.slice none 0 0) (.slice none 0 0)).drew) (three_blk TB2.out (.int .i64 0) (.slice none 0 0) (.slice none 0 0));have BF:=hide bF;clear bF rd2 rk hF BE2 TB2 B1 TB1 RB1
   go_wp2_with fail
   go_region
   all_goals
    go_wp2;exact bodyPost_ret (by simp [results,Tryz.results53,asAddr,Result.andThen,ld]) rfl ⟨_,_,_,rfl,BF.out.drew,FF.out _⟩
end Go.Proofs.YtmccnmgaoppogaaGreat
