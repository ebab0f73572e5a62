/-
 The walks: which sets can be gone on with. (weirref)
-/
import Derived.Test.YtmccnmgaoppogaaVB
namespace Go.Proofs.Ytmccnmgaoppogaa
set_option maxRecDepth 100000
set_option maxHeartbeats 8000000
open Go.RowKit
def RetOn (N J:Nat) (To:Nat→Nat→Int) (Ru:Nat→Int) (w:World) (e:Ending) (w':World):Prop:=
 ∃g f,e=.returned (.slice (some ⟨g,0,none⟩) N N)∧Below w.heap.size w w'∧Bl w' g N f∧Pu.OOK (Pu.nxD N To) (Pu.labD N Ru) J (N+1) (fun i=>decide (i<N) && f i)
structure OnM (w:World) (vS vT vR:Value) (gm g N:Nat) (f:Nat→Bool) (W:World):Prop where
 be:Below w.heap.size w W
 m:Blk W gm 146 [vS,vT,vR]
 o:Bl W g N f
 lo:w.heap.size≤g
theorem OnM.set {w W:World} {vS vT vR:Value} {gm g N:Nat} {f:Nat→Bool} (h:OnM w vS vT vR gm g N f W) (k:Nat):OnM w vS vT vR gm g N (Pu.setO f k true) (W.setCell ⟨g,k,none⟩ (.bool true)):=
 ⟨h.be.setCell h.lo _,blk_grown h.m (Lib.grownBy_setCell W g k (.bool true)) (fun e=>blk_ne2 h.m h.o (by decide) (Option.some.inj e)),h.o.set k true,h.lo⟩
theorem on_any (vS vT vR:Value) (N J:Nat) (To:Nat→Nat→Int) (Ru:Nat→Int) (w:World) (h:Mch w vT vR N J To Ru) (hin:∀i c,i<N→c<J→To i c<(N:Int)) (hN:N≤1000) (hJ:J≤1000) :
  Calls Try.prog 71 #[.agg #[vS,vT,vR]] w (RetOn N J To Ru w):=by
 have hmk:=make_bool N (by omega)
 have HM:=hide h
 have IN:=hide hin
 obtain⟨bT,cT,rfl,-⟩:=h.t
 obtain⟨bR,cR,rfl,-⟩:=h.r
 have m1:=heap_alloc_new w (.cells #[vS,.slice (some ⟨bT,0,none⟩) N cT,.slice (some ⟨bR,0,none⟩) N cR] 146)
 have c1:=bc_ 1 (xs:=[vS,.slice (some ⟨bT,0,none⟩) N cT,.slice (some ⟨bR,0,none⟩) N cR]) m1 rfl
 have O1:Hid (OnM w vS (.slice (some ⟨bT,0,none⟩) N cT) (.slice (some ⟨bR,0,none⟩) N cR) w.heap.size (w.heap.size+1) N (fun _=>false) ((w.alloc (.cells #[vS,.slice (some ⟨bT,0,none⟩) N cT,.slice (some ⟨bR,0,none⟩) N cR] 146)).alloc (.cells (bln N (fun _=>false)).toArray 4))):=
  ⟨(bn_ _).alloc (by simp) _,blk_alloc m1 _,by have:=heap_alloc_new (w.alloc (.cells #[vS,.slice (some ⟨bT,0,none⟩) N cT,.slice (some ⟨bR,0,none⟩) N cR] 146)) (.cells (bln N (fun _=>false)).toArray 4);simp only [World.size_alloc] at this;exact this,by omega⟩
 clear h hin m1
 go_enter Try.func71,Try.ntmps71
 go_wp2_with fail
 clear c1 hmk
 generalize w.heap.size+1=g at *
 go_loopg [4,5,6,7] (Pu.fcO N (fun _=>false)+1) (fun gk mv _ _ _ wx=>∃(f:Nat→Bool) (more:Bool),gk=Pu.fcO N f+(if more=true then 1 else 0)∧mv=.bool more∧OnM w vS (.slice (some ⟨bT,0,none⟩) N cT) (.slice (some ⟨bR,0,none⟩) N cR) w.heap.size g N f wx∧Pu.OS N J To Ru f f false 0 0∧(more=false→Pu.OOK (Pu.nxD N To) (Pu.labD N Ru) J (N+1) (fun i=>decide (i<N) && f i)))
 case atStart=>exact⟨_,true,rfl,rfl,O1.out,.begin (fun _ _=>rfl),fun e=>by cases e⟩
 case round=>
  clear O1;obtain⟨f0,more0,rfl,rfl,hO,hS,hE⟩:=hrel;have HO:=hide hO;have HS:=hide hS
  cases more0 with
  | false=>
   have HE:=hide (hE rfl);clear hO hS hE;go_wp2;go_ret;exact⟨_,_,rfl,HO.out.be,HO.out.o,HE.out⟩
  | true=>
   clear hO hS hE
   go_wp2_with fail
   go_loopg [4,5,6,7] N (fun gk mv kv _ _ wx=>∃(f:Nat→Bool) (more:Bool) (k:Nat),k≤N∧gk=N-k∧mv=.bool more∧kv=.int .i64 k∧OnM w vS (.slice (some ⟨bT,0,none⟩) N cT) (.slice (some ⟨bR,0,none⟩) N cR) w.heap.size g N f wx∧Pu.OS N J To Ru f0 f more k 0)
   case atStart=>exact⟨f0,false,0,Nat.zero_le _,rfl,rfl,rfl,HO.out,HS.out⟩
   case round=>
    clear HO HS;obtain⟨f,more,k,kl,rfl,rfl,rfl,hO,hS⟩:=hrel;have HO:=hide hO;have HS:=hide hS;have c1:=bc_ 1 hO.m rfl;by_cases hk:k<N
    ·have d1:=dl_ (k:Int) (N:Int) (by omega)
     have wk:=wr_ (k:Int) (by omega) (by omega);have k0:=nz_ k;have k1:(k:Int)<(N:Int):=by omega
     clear hO hS
     go_wp2_with fail
     clear c1
     go_loopg [4,6,7] J (fun gk mv jv _ wx=>∃(f:Nat→Bool) (more:Bool) (j:Nat),j≤J∧gk=J-j∧mv=.bool more∧jv=.int .i64 j∧OnM w vS (.slice (some ⟨bT,0,none⟩) N cT) (.slice (some ⟨bR,0,none⟩) N cR) w.heap.size g N f wx∧Pu.OS N J To Ru f0 f more k j)
     case atStart=>exact⟨f,more,0,Nat.zero_le _,rfl,rfl,rfl,HO.out,HS.out⟩
     case round=>
      clear HO HS;obtain⟨f,more,j,jl,rfl,rfl,rfl,hO,hS⟩:=hrel;have HO:=hide hO;have HS:=hide hS;have c1:=bc_ 1 hO.m rfl;have c2:=bc_ 2 hO.m rfl;have MM:=HM.out.below hO.be;obtain⟨bT',cT',eT,hT⟩:=MM.t;cases eT;obtain⟨b',c',_,q1,q2⟩:=hT k hk;by_cases hj:j<J
      ·have d2:=dl_ (j:Int) (J:Int) (by omega)
       have wj:=wr_ (j:Int) (by omega) (by omega);have j0:=nz_ j;have j1:(j:Int)<(J:Int):=by omega
       have q3:=q2 j hj;have ht:=IN.out k j hk hj;have fk:=blk_cell hO.o (bln_get f hk);have fz:=blk_frozen hO.o k;have SKIP:Hid ((Pu.hitO To Ru f k j→f k=true)→Pu.OS N J To Ru f0 f more k (j+1)):=fun e=>HS.out.skip e
       have YES:Hid (f k=false→Pu.hitO To Ru f k j→Pu.OS N J To Ru f0 (Pu.setO f k true) true k (j+1)):=fun e1 e2=>HS.out.yes hk hj IN.out e1 e2
       obtain⟨bR',cR',eR,hR⟩:=MM.r;cases eR;have RR:=hide hR;have SET:=hide (hO.set k);have FT:Hid (∀t:Nat,t<N→wr.cell? ⟨g,t,none⟩=some (.bool (f t))):=fun t ht=>blk_cell HO.out.o (bln_get f ht)
       have HIT:Hid (Pu.hitO To Ru f k j↔0≤To k j∧(0≤Ru (To k j).toNat∨f (To k j).toNat=true)):=Iff.rfl;clear hO hS HS MM hT q2 hR;generalize To k j=t at *;by_cases ht0:t<0
       ·have d3:decide ((0:Int)≤t)=false:=decide_eq_false (by omega)
        have R:=hide (SKIP.out (fun e=>by have:=(HIT.out.1 e).1;omega));clear SKIP YES SET FT RR HIT ht;go_wp2;go_roundg (J-(j+1))
        case measure=>omega
        case rel=>exact⟨f,more,j+1,by omega,rfl,rfl,by go_num,HO.out,R.out⟩
       ·have d3:decide ((0:Int)≤t)=true:=decide_eq_true (by omega)
        cases efk:f k with
        | true=>
         have R:=hide (SKIP.out (fun _=>efk));rw [efk] at fk;clear SKIP YES SET FT RR HIT ht efk;go_wp2;go_roundg (J-(j+1))
         case measure=>omega
         case rel=>exact⟨f,more,j+1,by omega,rfl,rfl,by go_num,HO.out,R.out⟩
        | false=>
         rw [efk] at fk;obtain⟨u,rfl⟩:∃u:Nat,t=(u:Int):=⟨t.toNat,by omega⟩;have hu:u<N:=by omega
         have r1:=RR.out u hu;have f1:=FT.out u hu;have u0:=nz_ u;have u1:(u:Int)<(N:Int):=by omega
         have HIT2:Hid (Pu.hitO To Ru f k j↔(0≤Ru u∨f u=true)):=HIT.out.trans ⟨fun e=>e.2,fun e=>⟨u0,e⟩⟩;have SK2:Hid (¬(0≤Ru u∨f u=true)→Pu.OS N J To Ru f0 f more k (j+1)):=fun e=>SKIP.out (fun e'=>absurd (HIT2.out.1 e') e)
         have YE2:Hid ((0≤Ru u∨f u=true)→Pu.OS N J To Ru f0 (Pu.setO f k true) true k (j+1)):=fun e=>YES.out efk (HIT2.out.2 e)
         clear SKIP YES FT RR HIT HIT2 ht efk ht0;by_cases hr:0≤Ru u
         ·have d4:decide ((0:Int)≤Ru u)=true:=decide_eq_true hr
          have R:=hide (YE2.out (.inl hr));clear SK2 YE2;generalize Ru u=r at *;go_wp2;go_roundg (J-(j+1))
          case measure=>omega
          case rel=>exact⟨_,true,j+1,by omega,rfl,rfl,by go_num,SET.out,R.out⟩
         ·have d4:decide ((0:Int)≤Ru u)=false:=decide_eq_false hr
          cases efu:f u with
          | true=>
           have R:=hide (YE2.out (.inr efu));rw [efu] at f1;clear SK2 YE2 efu;generalize Ru u=r at *;go_wp2;go_roundg (J-(j+1))
           case measure=>omega
           case rel=>exact⟨_,true,j+1,by omega,rfl,rfl,by go_num,SET.out,R.out⟩
          | false=>
           have R:=hide (SK2.out (by rw [efu];rintro (e | e);exact hr e;cases e));rw [efu] at f1;clear SK2 YE2 efu SET;generalize Ru u=r at *;go_wp2;go_roundg (J-(j+1))
           case measure=>omega
           case rel=>exact⟨f,more,j+1,by omega,rfl,rfl,by go_num,HO.out,R.out⟩
      ·have d2:=df_ (j:Int) (J:Int) (by omega)
       have ej:j=J:=by omega
       subst ej;have R:=hide hS.row;clear hO hS HS MM hT q2;go_wp2;go_roundg (N-(k+1))
       case measure=>omega
       case rel=>exact⟨f,more,k+1,by omega,rfl,rfl,by go_num,HO.out,R.out⟩
    ·have d1:=df_ (k:Int) (N:Int) (by omega)
     have ek:k=N:=by omega
     subst ek
     have MS:Hid (Pu.fcO k f+(if more=true then 1 else 0)<Pu.fcO k f0+(if true=true then 1 else 0)):=by
      have:=hS.cnt;show _<_;rw [if_pos (rfl:true=true)];omega
     have OK:Hid (more=false→Pu.OOK (Pu.nxD k To) (Pu.labD k Ru) J (k+1) (fun i=>decide (i<k) && f i)):=fun e=>by
      subst e;exact HS.out.ok IN.out
     clear hO hS;go_wp2;go_roundg (Pu.fcO k f+(if more=true then 1 else 0))
     case measure=>exact MS.out
     case rel=>exact⟨f,more,rfl,rfl,HO.out,HS.out.start,OK.out⟩
end Go.Proofs.Ytmccnmgaoppogaa
