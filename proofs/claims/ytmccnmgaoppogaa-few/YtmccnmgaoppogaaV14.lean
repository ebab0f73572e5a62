/-
 The walks: are two sets told apart by a byte? (weirref)
-/
import Derived.Test.YtmccnmgaoppogaaVB
namespace Go.Proofs.Ytmccnmgaoppogaa
set_option maxRecDepth 100000
set_option maxHeartbeats 8000000
open Go.RowKit
theorem nxD_val (N:Nat) (To:Nat→Nat→Int) (i j:Nat):(if i=N∨To i j<0 then (N:Int) else To i j)=((Pu.nxD N To i j:Nat):Int):=by
 unfold Pu.nxD
 split
 ·rfl
 ·omega
theorem apart_any (vS vT vR:Value) (N J n:Nat) (To:Nat→Nat→Int) (Ru:Nat→Int) (gd:Nat) (gs:List Nat) (d:Nat→Nat→Bool) (i k:Nat) (w:World) (h:Mch w vT vR N J To Ru) (hn:n=N+1) (ht:Tb w gd n n gs d) (hin:∀i c,i<N→c<J→To i c<(N:Int)) (hN:N≤1000) (h0:0<N) (hJ:J≤1000) (hi:i≤N) (hk:k≤N) :
  Calls Try.prog 111 #[.agg #[vS,vT,vR],.slice (some ⟨gd,0,none⟩) n n,.int .i64 i,.int .i64 k] w (RetVal (.bool (Pu.apD (Pu.nxD N To) J d i k)) w):=by
 have HM:=hide h
 have HN:=hide hn
 have HT:=hide ht
 have IN:=hide hin
 obtain⟨bT,cT,rfl,hT⟩:=h.t
 obtain⟨bR,cR,rfl,-⟩:=h.r
 obtain⟨b0,c0,hb0,k0,-⟩:=hT 0 h0
 have K0:=hide k0
 have b1:Below w.heap.size w (w.alloc (.cells #[vS,.slice (some ⟨bT,0,none⟩) N cT,.slice (some ⟨bR,0,none⟩) N cR] 146)):=bn_ _
 have M1:Hid (Blk (w.alloc (.cells #[vS,.slice (some ⟨bT,0,none⟩) N cT,.slice (some ⟨bR,0,none⟩) N cR] 146)) w.heap.size 146 [vS,.slice (some ⟨bT,0,none⟩) N cT,.slice (some ⟨bR,0,none⟩) N cR]):=heap_alloc_new _ _
 have B1:=hide b1
 clear h ht hin hT k0 b1 hb0 hn
 go_enter Try.func111,Try.ntmps111
 go_wp2_with fail
 go_loopg [9,10,11] J (fun gk jv _ _ wx=>∃j:Nat,j≤J∧gk=J-j∧jv=.int .i64 j∧Below w.heap.size w wx∧Blk wx w.heap.size 146 [vS,.slice (some ⟨bT,0,none⟩) N cT,.slice (some ⟨bR,0,none⟩) N cR]∧∀c,c<j→d (Pu.nxD N To i c) (Pu.nxD N To k c)=false)
 case atStart=>exact⟨0,Nat.zero_le _,rfl,rfl,B1.out,M1.out,fun c hc=>absurd hc (Nat.not_lt_zero _)⟩
 case round=>
  clear B1 M1;obtain⟨j,jl,rfl,rfl,hb,hm,hf⟩:=hrel;have c0':=bc_ 0 hm rfl;have c1':=bc_ 1 hm rfl;have c2':=bc_ 2 hm rfl;have k0:wr.cell? ⟨bT,0,none⟩=some (.slice (some ⟨b0,0,none⟩) J c0):=by rw [hb.cell (p:=⟨bT,0,none⟩) (World.block_lt_of_cell? w _ K0.out)];exact K0.out
  have z0:(0:Int)<(N:Int):=by omega
  have FF:=hide hf;by_cases hj:j<J
  ·have d1:=dl_ (j:Int) (J:Int) (by omega)
   have wj:=wr_ (j:Int) (by omega) (by omega);have MM:=hide (HM.out.below hb);have ca:=mbehind_any vS _ _ N J To Ru i j wr MM.out hN hi hj;rw [nxD_val] at ca;have CA:=hide ca;have cb:=fun W (hb':Below wr.heap.size wr W)=>mbehind_any vS _ _ N J To Ru k j W (MM.out.below hb') hN hk hj
   rw [nxD_val] at cb;have CB:=hide cb;have la:Pu.nxD N To i j<n:=by rw [HN.out];exact Pu.nxD_lt IN.out i j (by omega) hj
   have lb:Pu.nxD N To k j<n:=by rw [HN.out];exact Pu.nxD_lt IN.out k j (by omega) hj
   have TT:=hide (HT.out.below hb);have HH:=hide hm;have BB:=hide hb;clear ca cb hf hm hb
   go_wp2_with fail
   refine CA.out.mono ?_
   clear CA;rintro e w2 ⟨rfl,hb2⟩;have B2:=hide (bel0 BB.out hb2);have M2:=hide (blk_below HH.out hb2 (blk_lt HH.out));have T2:=hide (TT.out.below hb2);have CB2:=hide (CB.out w2 hb2);have c0':=bc_ 0 M2.out rfl;have c1':=bc_ 1 M2.out rfl;have c2':=bc_ 2 M2.out rfl;clear hb2 BB HH TT CB
   go_wp2_with fail
   refine CB2.out.mono ?_
   clear CB2 c0' c1' c2';rintro e w3 ⟨rfl,hb3⟩;have B3:=hide (bel0 B2.out hb3);have M3:=hide (blk_below M2.out hb3 (blk_lt M2.out));have T3:=hide (T2.out.below hb3);clear hb3 B2 M2 T2;obtain⟨g,_,q1,q2,_⟩:=T3.out.at la lb
   have NX:Hid (d (Pu.nxD N To i j) (Pu.nxD N To k j)=false→∀c,c<j+1→d (Pu.nxD N To i c) (Pu.nxD N To k c)=false):=fun e c hc=>by
    by_cases ec:c=j
    ·subst ec;exact e
    ·exact FF.out c (by omega)
   have YES:Hid (d (Pu.nxD N To i j) (Pu.nxD N To k j)=true→Pu.apD (Pu.nxD N To) J d i k=true):=fun e=>by
    unfold Pu.apD;rw [List.any_eq_true];exact⟨j,List.mem_range.2 hj,e⟩
   generalize Pu.nxD N To i j=a at *;generalize Pu.nxD N To k j=b at *;have a0:=nz_ a;have a1:(a:Int)<(n:Int):=by omega
   have b0':=nz_ b;have b1':(b:Int)<(n:Int):=by omega
   cases e:d a b with
   | true=>
    have R:=hide (YES.out e);rw [e] at q2;clear YES NX e FF;go_wp2;go_ret;exact⟨by rw [R.out];rfl,B3.out⟩
   | false=>
    have R:=hide (NX.out e);rw [e] at q2;clear YES NX e FF;go_wp2;go_roundg (J-(j+1))
    case measure=>omega
    case rel=>exact⟨j+1,by omega,rfl,by go_num,B3.out,M3.out,R.out⟩
  ·have d1:=df_ (j:Int) (J:Int) (by omega)
   have R:Hid (Pu.apD (Pu.nxD N To) J d i k=false):=by
    show _=_;unfold Pu.apD;rw [List.any_eq_false];intro c hc;rw [hf c (by have:=List.mem_range.1 hc;omega)];decide
   have BB:=hide hb;clear hf hm hb;go_wp2;go_ret;exact⟨by rw [R.out];rfl,BB.out⟩
end Go.Proofs.Ytmccnmgaoppogaa
