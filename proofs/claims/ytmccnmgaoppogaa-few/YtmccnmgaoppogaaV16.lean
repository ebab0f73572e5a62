/-
 The walks: which sets a word tells apart. (weirref)
-/
import Derived.Test.YtmccnmgaoppogaaV14
namespace Go.Proofs.Ytmccnmgaoppogaa
set_option maxRecDepth 100000
set_option maxHeartbeats 8000000
open Go.RowKit
def RetTld (N J n:Nat) (To:Nat→Nat→Int) (Ru:Nat→Int) (w:World) (e:Ending) (w':World):Prop:=
 ∃gd gs d,e=.returned (.slice (some ⟨gd,0,none⟩) n n)∧Below w.heap.size w w'∧Tb w' gd n n gs d∧Pu.DOK (Pu.nxD N To) (Pu.labD N Ru) J n d
theorem ne_dec (a b:Int):(a != b)=decide (a≠b):=by by_cases h:a=b <;> simp [h]
theorem mtold_any (vS vT vR:Value) (N J n:Nat) (To:Nat→Nat→Int) (Ru:Nat→Int) (w:World) (h:Mch w vT vR N J To Ru) (hn:n=N+1) (hin:∀i c,i<N→c<J→To i c<(N:Int)) (hN:N≤1000) (h0:0<N) (hJ:J≤1000) :
  Calls Try.prog 72 #[.agg #[vS,vT,vR]] w (RetTld N J n To Ru w):=by
 have hmk:=make_bool n (by omega)
 have hms:=make_sl n (by omega)
 have HM:=hide h
 have IN:=hide hin
 have INN:Hid (∀i c,i<n→c<J→Pu.nxD N To i c<n):=by
  have:=Pu.nxD_lt hin;rw [←hn] at this;exact this
 obtain⟨bT,cT,eT,-⟩:=h.t
 subst eT
 have m1:=heap_alloc_new w (.cells #[vS,.slice (some ⟨bT,0,none⟩) N cT,vR] 146)
 have c1:=bc_ 1 (xs:=[vS,.slice (some ⟨bT,0,none⟩) N cT,vR]) m1 rfl
 have wn:IntKind.i64.wrap ((N:Int)+1)=(n:Int):=by rw [wrap_in _ (by omega) (by omega)];omega
 have T1:Hid (TP w w.heap.size vS (.slice (some ⟨bT,0,none⟩) N cT) vR (w.heap.size+1) n 0 [] (fun _ _=>false) ((w.alloc (.cells #[vS,.slice (some ⟨bT,0,none⟩) N cT,vR] 146)).alloc (.cells (Array.replicate n (.slice none 0 0)) 148))):=by
  refine⟨(bn_ _).alloc (by simp) _,blk_alloc m1 _,⟨?_,rfl,fun a g e=>by simp at e,List.nodup_nil⟩,fun g hg=>by simp at hg,by omega⟩;have:=heap_alloc_new (w.alloc (.cells #[vS,.slice (some ⟨bT,0,none⟩) N cT,vR] 146)) (.cells (Array.replicate n (.slice none 0 0)) 148);simp only [World.size_alloc] at this;unfold Blk;rw [this];simp [blsC]
 have HN:=hide hn
 have l0:N<n:=by omega
 have l1:n≤N+1:=by omega
 clear h hin m1 hn
 go_enter Try.func72,Try.ntmps72
 go_wp2_with fail
 clear c1 hms wn
 generalize w.heap.size+1=gd at *
 go_loopg [5,6,7,8] n (fun gk iv _ _ _ wx=>∃(i:Nat) (gs:List Nat),i≤n∧gk=n-i∧iv=.int .i64 i∧TP w w.heap.size vS (.slice (some ⟨bT,0,none⟩) N cT) vR gd n i gs (fun a b=>decide (Pu.labD N Ru a≠Pu.labD N Ru b)) wx)
 case atStart=>exact⟨0,[],Nat.zero_le _,rfl,rfl,T1.out.congr (fun a k ha=>absurd ha (Nat.not_lt_zero _))⟩
 case round=>
  clear T1;obtain⟨i,gs,il,rfl,rfl,hT⟩:=hrel;have HT:=hide hT;by_cases hi:i<n
  ·have d1:=dl_ (i:Int) (n:Int) (by omega)
   have wi:=wr_ (i:Int) (by omega) (by omega);have i0:=nz_ i;have i1:(i:Int)<(n:Int):=by omega
   have A1:=hide (hT.add hi);have hbd:=hT.below ((Below.refl wr.heap.size wr).alloc lr_ (.cells (bln n (fun _=>false)).toArray 4));have fz:=blk_frozen hbd.t.b i
   have cz:(wr.alloc (.cells (bln n (fun _=>false)).toArray 4)).cell? ⟨gd,i,none⟩=some (.slice none 0 0):=by
    refine blk_cell hbd.t.b ?_
    rw [List.getElem?_append_right (by rw [blsC_len,hT.t.len];exact lr_),blsC_len,hT.t.len,Nat.sub_self,show n-i=(n-(i+1))+1 by omega,List.replicate_succ];rfl
   clear hT hbd HT
   go_wp2_with fail
   clear fz cz;generalize wr.heap.size=gn at *
   go_loopg [6,7,8] n (fun gk kv _ _ wx=>∃(k:Nat),k≤n∧gk=n-k∧kv=.int .i64 k∧TP w w.heap.size vS (.slice (some ⟨bT,0,none⟩) N cT) vR gd n (i+1) (gs++[gn]) (fun a b=>(decide (a<i) || decide (b<k)) && decide (Pu.labD N Ru a≠Pu.labD N Ru b)) wx)
   case atStart=>exact⟨0,Nat.zero_le _,rfl,rfl,A1.out.congr (fun a k _ _=>by simp)⟩
   case round=>
    clear A1;obtain⟨k,kl,rfl,rfl,hT⟩:=hrel;have HT:=hide hT;by_cases hk:k<n
    ·have d2:=dl_ (k:Int) (n:Int) (by omega)
     have wk:=wr_ (k:Int) (by omega) (by omega);have k0:=nz_ k;have k1:(k:Int)<(n:Int):=by omega
     have c0:=bc_ 0 hT.m rfl;have c1:=bc_ 1 hT.m rfl;have c2:=bc_ 2 hT.m rfl;have MM:=hide (HM.out.below hT.be);have CA:Hid (Calls Try.prog 110 #[.agg #[vS,.slice (some ⟨bT,0,none⟩) N cT,vR],.int .i64 i] _ (RetVal (.int .i64 (Pu.labD N Ru i)) _)):=label_any vS _ vR N J To Ru i _ MM.out hN (by omega);clear hT
     go_wp2_with fail
     refine CA.out.mono ?_
     clear CA c0 c1 c2;rintro e w2 ⟨rfl,hb2⟩;have T2:=hide (HT.out.below hb2);have c0:=bc_ 0 T2.out.m rfl;have c1:=bc_ 1 T2.out.m rfl;have c2:=bc_ 2 T2.out.m rfl;have CB:Hid (Calls Try.prog 110 #[.agg #[vS,.slice (some ⟨bT,0,none⟩) N cT,vR],.int .i64 k] w2 (RetVal (.int .i64 (Pu.labD N Ru k)) w2)):=label_any vS _ vR N J To Ru k w2 (MM.out.below hb2) hN (by omega);clear hb2 HT MM
     go_wp2_with fail
     refine CB.out.mono ?_
     clear CB c0 c1 c2;rintro e w3 ⟨rfl,hb3⟩;have T3:=hide (T2.out.below hb3);clear hb3 T2;obtain⟨g,hg,q1,q2,q3⟩:=T3.out.t.at (Nat.lt_succ_self i) hk
     have R:Hid (TP w w.heap.size vS (.slice (some ⟨bT,0,none⟩) N cT) vR gd n (i+1) (gs++[gn]) (fun a b=>(decide (a<i) || decide (b<k+1)) && decide (Pu.labD N Ru a≠Pu.labD N Ru b)) (w3.setCell ⟨g,k,none⟩ (.bool (Pu.labD N Ru i != Pu.labD N Ru k)))):=(T3.out.set hg k _).congr (fun a b ha _=>by
      unfold Pu.setD;by_cases c:a=i∧b=k
      ·obtain⟨rfl,rfl⟩:=c
       rw [if_pos ⟨rfl,rfl⟩,ne_dec,decide_eq_true (Nat.lt_succ_self b),Bool.or_true,Bool.true_and]
      ·rw [if_neg c]
       by_cases c2:a=i
       ·subst c2
        rw [show decide (b<k+1)=decide (b<k) by rw [decide_eq_decide];omega]
       ·have ai:decide (a<i)=true:=decide_eq_true (by omega)
        simp only [ai,Bool.true_or])
     generalize Pu.labD N Ru i=la at *;generalize Pu.labD N Ru k=lb at *;clear hg T3;go_wp2;go_roundg (n-(k+1))
     case measure=>omega
     case rel=>exact⟨k+1,by omega,rfl,by go_num,R.out⟩
    ·have d2:=df_ (k:Int) (n:Int) (by omega)
     have R:Hid (TP w w.heap.size vS (.slice (some ⟨bT,0,none⟩) N cT) vR gd n (i+1) (gs++[gn]) (fun a b=>decide (Pu.labD N Ru a≠Pu.labD N Ru b)) wr):=hT.congr (fun a b _ hb=>by rw [decide_eq_true (show b<k by omega),Bool.or_true,Bool.true_and]);clear hT HT;go_wp2;go_roundg (n-(i+1))
     case measure=>omega
     case rel=>exact⟨i+1,gs++[gn],by omega,rfl,by go_num,R.out⟩
  ·have d1:=df_ (i:Int) (n:Int) (by omega)
   have ei:i=n:=by omega
   subst ei;clear hT
   go_wp2_with fail
   go_loopg [9,10,11,12] (Pu.fcD i (fun a b=>decide (Pu.labD N Ru a≠Pu.labD N Ru b))+1) (fun gk mv _ _ _ wx=>∃(d:Nat→Nat→Bool) (more:Bool),gk=Pu.fcD i d+(if more=true then 1 else 0)∧mv=.bool more∧TP w w.heap.size vS (.slice (some ⟨bT,0,none⟩) N cT) vR gd i i gs d wx∧Pu.PS (Pu.nxD N To) (Pu.labD N Ru) J i d d false 0 0∧(more=false→Pu.DOK (Pu.nxD N To) (Pu.labD N Ru) J i d))
   case atStart=>exact⟨_,true,rfl,rfl,HT.out,.begin (fun _ _ _ _=>rfl),fun e=>by cases e⟩
   case round=>
    clear HT;obtain⟨d0,more0,rfl,rfl,hT,hS,hE⟩:=hrel;have HT:=hide hT;have HS:=hide hS
    cases more0 with
    | false=>
     have HE:=hide (hE rfl);clear hT hS hE;go_wp2;go_ret;exact⟨_,_,_,rfl,HT.out.be,HT.out.t,HE.out⟩
    | true=>
     clear hT hS hE
     go_wp2_with fail
     go_loopg [9,10,11,12] i (fun gk mv av _ _ wx=>∃(d:Nat→Nat→Bool) (more:Bool) (a:Nat),a≤i∧gk=i-a∧mv=.bool more∧av=.int .i64 a∧TP w w.heap.size vS (.slice (some ⟨bT,0,none⟩) N cT) vR gd i i gs d wx∧Pu.PS (Pu.nxD N To) (Pu.labD N Ru) J i d0 d more a 0)
     case atStart=>exact⟨d0,false,0,Nat.zero_le _,rfl,rfl,rfl,HT.out,HS.out⟩
     case round=>
      clear HT HS;obtain⟨d,more,a,al,rfl,rfl,rfl,hT,hS⟩:=hrel;have HT:=hide hT;have HS:=hide hS;by_cases ha:a<i
      ·have d1:=dl_ (a:Int) (i:Int) (by omega)
       have wa:=wr_ (a:Int) (by omega) (by omega);have a0:=nz_ a;have a1:(a:Int)<(i:Int):=by omega
       clear hT hS
       go_wp2_with fail
       go_loopg [9,11,12] i (fun gk mv kv _ wx=>∃(d:Nat→Nat→Bool) (more:Bool) (k:Nat),k≤i∧gk=i-k∧mv=.bool more∧kv=.int .i64 k∧TP w w.heap.size vS (.slice (some ⟨bT,0,none⟩) N cT) vR gd i i gs d wx∧Pu.PS (Pu.nxD N To) (Pu.labD N Ru) J i d0 d more a k)
       case atStart=>exact⟨d,more,0,Nat.zero_le _,rfl,rfl,rfl,HT.out,HS.out⟩
       case round=>
        clear HT HS;obtain⟨d,more,k,kl,rfl,rfl,rfl,hT,hS⟩:=hrel;have HT:=hide hT;have HS:=hide hS;by_cases hk:k<i
        ·have d2:=dl_ (k:Int) (i:Int) (by omega)
         have wk:=wr_ (k:Int) (by omega) (by omega);have k0:=nz_ k;have k1:(k:Int)<(i:Int):=by omega
         obtain⟨g,hg,q1,q2,q3⟩:=hT.t.at ha hk
         cases ed:d a k with
         | true=>
          have R:=hide (hS.skip (.inl ed));rw [ed] at q2;clear hT hS HS ed hg q3;go_wp2;go_roundg (i-(k+1))
          case measure=>omega
          case rel=>exact⟨d,more,k+1,by omega,rfl,rfl,by go_num,HT.out,R.out⟩
         | false=>
          rw [ed] at q2;have c0:=bc_ 0 hT.m rfl;have c1:=bc_ 1 hT.m rfl;have c2:=bc_ 2 hT.m rfl;have CA:=hide (apart_any vS _ vR N J i To Ru gd gs d a k wr (HM.out.below hT.be) HN.out hT.t IN.out hN h0 hJ (by omega) (by omega));have GG:=hide hg;have ED:=hide ed;clear hT hS ed hg q3
          go_wp2_with fail
          refine CA.out.mono ?_
          clear CA c0 c1 c2 q1 q2;rintro e w2 ⟨rfl,hb2⟩;have T2:=hide (HT.out.below hb2);clear hb2 HT
          cases ea:Pu.apD (Pu.nxD N To) J d a k with
          | false=>
           have R:=hide (HS.out.skip (.inr ea));clear ea HS ED GG;go_wp2;go_roundg (i-(k+1))
           case measure=>omega
           case rel=>exact⟨d,more,k+1,by omega,rfl,rfl,by go_num,T2.out,R.out⟩
          | true=>
           have R:=hide (HS.out.yes ha hk INN.out ED.out ea);have S2:=hide (T2.out.set GG.out k true);have q1:=T2.out.t.get GG.out;have q1':w2.cell? ⟨gd,a,none⟩=some (.slice (some ⟨g,0,none⟩) i i):=q1;have q2:=blk_cell (T2.out.t.row a g GG.out) (bln_get _ hk);have q3:=blk_frozen (T2.out.t.row a g GG.out) k;clear ea HS ED GG T2 q1;generalize d a k=old at *;go_wp2;go_roundg (i-(k+1))
           case measure=>omega
           case rel=>exact⟨_,true,k+1,by omega,rfl,rfl,by go_num,S2.out,R.out⟩
        ·have d2:=df_ (k:Int) (i:Int) (by omega)
         have ek:k=i:=by omega
         subst ek;have R:=hide hS.row;clear hT hS HS;go_wp2;go_roundg (k-(a+1))
         case measure=>omega
         case rel=>exact⟨d,more,a+1,by omega,rfl,rfl,by go_num,HT.out,R.out⟩
      ·have d1:=df_ (a:Int) (i:Int) (by omega)
       have ek:a=i:=by omega
       subst ek
       have MS:Hid (Pu.fcD a d+(if more=true then 1 else 0)<Pu.fcD a d0+(if true=true then 1 else 0)):=by
        have:=hS.cnt;show _<_;rw [if_pos (rfl:true=true)];omega
       have OK:Hid (more=false→Pu.DOK (Pu.nxD N To) (Pu.labD N Ru) J a d):=fun e=>by
        subst e;exact HS.out.ok INN.out
       clear hT hS;go_wp2;go_roundg (Pu.fcD a d+(if more=true then 1 else 0))
       case measure=>exact MS.out
       case rel=>exact⟨d,more,rfl,rfl,HT.out,HS.out.start,OK.out⟩
end Go.Proofs.Ytmccnmgaoppogaa
