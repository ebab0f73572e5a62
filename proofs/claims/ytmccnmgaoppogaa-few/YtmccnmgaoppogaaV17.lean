/-
 The walks: how many Next there may be. (weirref)
-/
import Derived.Test.YtmccnmgaoppogaaV15
import Derived.Test.YtmccnmgaoppogaaV16
import Derived.Test.YtmccnmgaoppogaaJC
import Derived.Test.YtmccnmgaoppogaaHJ
namespace Go.Proofs.Ytmccnmgaoppogaa
set_option maxRecDepth 100000
set_option maxHeartbeats 8000000
open Go.RowKit
namespace Pu
def needM (all:List Ln) (m:Nat):Nat:=(((kksOf all).take m).map (fun k=>(k.drop 1).countP onKd)).sum
theorem needM_succ {all:List Ln} {m:Nat} (h:m<nM all):needM all (m+1)=needM all m+((kindsS (allLn all).1 (setsOf all m)).drop 1).countP onKd:=by
 unfold needM
 rw [kks_take all h,List.map_append,List.sum_append]
 simp
theorem needM_all (all:List Ln):needM all (nM all)=nexts (compP all).code:=by
 rw [nexts_comp]
 unfold needM
 rw [List.take_of_length_le (by rw [kks_len];exact lr_)]
def freshN (f:Nat→Bool) (d:Nat→Nat→Bool) (i:Nat):Nat:=(List.range i).countP (fresh f d)
theorem freshN_succ (f:Nat→Bool) (d:Nat→Nat→Bool) (i:Nat):freshN f d (i+1)=freshN f d i+(if fresh f d i=true then 1 else 0):=by
 unfold freshN
 rw [List.range_succ,List.countP_append]
 congr 1
 rw [List.countP_cons,List.countP_nil,Nat.zero_add]
theorem freshN_le (f:Nat→Bool) (d:Nat→Nat→Bool) (i:Nat):freshN f d i≤i:=by
 have:=List.countP_le_length (p:=fresh f d) (l:=List.range i)
 rw [List.length_range] at this
 exact this
theorem few_of {all:List Ln} {m:Nat} {S:List (Nat→Bool)} {tc:List (List Value)} {rs:List Value} {f:Nat→Bool} {d:Nat→Nat→Bool} (hm:m<nM all) (h42:(setsOf all m).length≤42) (hA:AD all (allD all)) (hS:machS all (allD all).ns (m:Int)=S) (hM:MC all (allD all).ns (m:Int) (repsN (allD all).ns 256) S tc rs) (hl:tc.length=S.length) (hr:rs.length=tc.length)
  (hd:DOK (nxD S.length (toOf tc)) (labD S.length (intAt rs)) (repsN (allD all).ns 256).length (S.length+1) d) (ho:OOK (nxD S.length (toOf tc)) (labD S.length (intAt rs)) (repsN (allD all).ns 256).length (S.length+1) (fun i=>decide (i<S.length) && f i)) :
  needM all (m+1)≤needM all m+freshN f d S.length:=by
 have h:=few_mode (hM.dm hS hl hr) (allLn_lin all) hA.net h42 rfl hd ho
 rw [fresh_dead] at h
 rw [needM_succ hm]
 exact Nat.add_le_add_left h _
end Pu
def RetLeast (all:List Pu.Ln) (w:World) (e:Ending) (w':World):Prop:=
 ∃L:Nat,e=.returned (.int .i64 (L:Int))∧Below w.heap.size w w'∧Pu.nexts (Pu.compP all).code≤L
theorem least_any (s:ByteArray) (all:List Pu.Ln) (g:Nat) (vn:Value) (al:Option Addr) (cl:Nat) (w0 w:World) (hD:Dl w0 s all g vn al cl w) (hL:Pu.Lns s 0 [] all) (h300:s.size≤300) (h42:∀j,j<Pu.nM all→(Pu.setsOf all j).length≤42) :
  Calls Try.prog 39 #[.pointer (some ⟨g,0,none⟩)] w (RetLeast all w):=by
 have AD0:=Pu.allD_ad all hL.bds.1
 have LEN:=hL.bds
 have nsl:(Pu.allD all).ns.length≤100000:=by have:=hL.nodes (Nat.zero_le _);omega
 have nsp:0<(Pu.allD all).ns.length:=by
  rw [AD0.net.len];obtain⟨x,hx⟩:=gx_ all 0 (by omega);have h1:=Pu.nbase_take_succ hx;have h2:=Pu.nbase_take_le all (0+1);have:=x.re.size_pos;omega
 have MD:Hid ((Pu.allD all).modes=(Pu.nM all:Int)):=by
  show _=_;rcases AD0.modes with ⟨h1,_⟩ | h1
  ·rw [h1] at LEN
   simp at LEN
  ·rw [h1]
   exact (Pu.nM_bd LEN.1).1
 have nm4:=(Pu.nM_bd LEN.1).2.2
 have al16:all.length≤1000:=by have:=LEN.2.2;omega
 have AG:=hide AD0
 have HD:=hide hD
 have H42:=hide h42
 clear hD hL h42 AD0 LEN
 go_enter Try.func39,Try.ntmps39
 go_wp2_with fail
 go_loopg [3,4,5,6,7,8,9,10] (Pu.nM all) (fun gk nv mv _ _ _ _ _ _ wx=>∃(m nn:Nat),m≤Pu.nM all∧gk=Pu.nM all-m∧nv=.int .i64 nn∧mv=.int .i64 m∧nn≤100*m∧Pu.needM all m≤nn∧Dl w0 s all g vn al cl wx∧Below w.heap.size w wx)
 case atStart=>exact⟨0,0,Nat.zero_le _,rfl,rfl,rfl,Nat.zero_le _,lr_,HD.out,Below.refl _ _⟩
 case round=>
  clear HD;obtain⟨m,nn,ml,rfl,rfl,rfl,nb,hne,hD,hb⟩:=hrel;have c0:=bc_ 0 hD.dr.rb rfl;rw [MD.out] at c0;have NE:=hide hne;have BB:=hide hb;by_cases hm:m<Pu.nM all
  ·have d1:=dl_ (m:Int) (Pu.nM all:Int) (by omega)
   have wm:=wr_ (m:Int) (by omega) (by omega);have FL2:(Pu.setsOf all m).length=(Pu.machS all (Pu.allD all).ns (m:Int)).length+1:=Pu.find_len (mode:=(m:Int)) (Pu.allLn_lin all) AG.out.net
   have SP:0<(Pu.machS all (Pu.allD all).ns (m:Int)).length:=by
    have:=(Pu.find_mach (mode:=(m:Int)) (Pu.allLn_lin all) AG.out.net);obtain⟨T,hT⟩:=this.hd;rw [this.eq,hT];simp
   have S41:(Pu.machS all (Pu.allD all).ns (m:Int)).length≤41:=by have:=H42.out m hm;omega
   have CALL:=hide (machine_all _ g _ s all _ (Pu.allD all).ls _ al cl _ _ nsl nsp al16 (m:Int) _ hD.dr hD.ln AG.out);have DD:=hide hD;clear hD hb hne FL2
   go_wp2_with fail
   refine CALL.out.mono ?_
   clear CALL c0;generalize hS:Pu.machS all (Pu.allD all).ns (m:Int)=S at *;have RP:=Pu.repsN_pos (Pu.allD all).ns 256 (by omega);have R256:(Pu.repsN (Pu.allD all).ns 256).length≤256:=Pu.repsN_len _ _;generalize hR:(Pu.repsN (Pu.allD all).ns 256).length=J at *;rintro e w2 ⟨vS,vT,vR,gss,ts,rs,tc,rfl,hb2,hBs,hTs,hRs,l1,l2,hrow,hMC,hor⟩;have hl:tc.length=S.length:=by omega
   have hmc:=mch_of hTs hRs l1 l2 hrow hMC hl SP (by omega);rw [hR] at hmc;have inn:=hMC.inn hl;rw [hR] at inn;obtain⟨gS,cS,rfl,_,_⟩:=own_some hBs.own (by rw [hBs.len];exact SP);rw [hBs.len] at *
   have FEW:Hid (∀(f:Nat→Bool) (d:Nat→Nat→Bool),Pu.DOK (Pu.nxD S.length (Pu.toOf tc)) (Pu.labD S.length (Pu.intAt rs)) J (S.length+1) d→Pu.OOK (Pu.nxD S.length (Pu.toOf tc)) (Pu.labD S.length (Pu.intAt rs)) J (S.length+1) (fun i=>decide (i<S.length) && f i)→Pu.needM all (m+1)≤Pu.needM all m+Pu.freshN f d S.length):=fun f d h1 h2=>by
    rw [←hR] at h1 h2;exact Pu.few_of hm (H42.out m hm) AG.out hS hMC hl l2 h1 h2
   clear hBs hTs hRs hrow hMC hor hS l1 l2;obtain⟨bT,cT,eT,-⟩:=hmc.t;obtain⟨bR,cR,eR,-⟩:=hmc.r;subst eT eR;have hbA:Below w2.heap.size w2 (w2.alloc (.cells #[.slice (some ⟨gS,0,none⟩) S.length cS,.slice (some ⟨bT,0,none⟩) S.length cT,.slice (some ⟨bR,0,none⟩) S.length cR] 146)):=bn_ _;have MB:Hid (Blk (w2.alloc (.cells #[.slice (some ⟨gS,0,none⟩) S.length cS,.slice (some ⟨bT,0,none⟩) S.length cT,.slice (some ⟨bR,0,none⟩) S.length cR] 146)) w2.heap.size 146 [.slice (some ⟨gS,0,none⟩) S.length cS,.slice (some ⟨bT,0,none⟩) S.length cT,.slice (some ⟨bR,0,none⟩) S.length cR]):=heap_alloc_new _ _;have MA:=hide (hmc.below hbA);have DA:=hide ((DD.out.below hb2).below hbA);have BA:=hide (bel0 (bel0 BB.out hb2) hbA);have ON:=hide (on_any (.slice (some ⟨gS,0,none⟩) S.length cS) _ _ S.length J _ _ _ MA.out inn (by omega) (by omega));have IN:=hide inn;clear hmc hbA hb2 DD BB inn;generalize S.length=N at *;generalize Pu.toOf tc=To at *;generalize Pu.intAt rs=Ru at *
   go_wp2_with fail
   refine ON.out.mono ?_
   clear ON;generalize w2.alloc (.cells #[.slice (some ⟨gS,0,none⟩) N cS,.slice (some ⟨bT,0,none⟩) N cT,.slice (some ⟨bR,0,none⟩) N cR] 146)=w3 at *;generalize w2.heap.size=gm at *;rintro e w4 ⟨go,f,rfl,hb4,hBl,hOOK⟩;have M4:=hide (blk_below MB.out hb4 (blk_lt MB.out));have c0:=bc_ 0 M4.out rfl;have c1:=bc_ 1 M4.out rfl;have c2:=bc_ 2 M4.out rfl;have TLD:=hide (mtold_any (.slice (some ⟨gS,0,none⟩) N cS) _ _ N J (N+1) To Ru w4 (MA.out.below hb4) rfl IN.out (by omega) SP (by omega));have D4:=hide (DA.out.below hb4);have B4:=hide (bel0 BA.out hb4);have O4:=hide hBl;have OO:=hide hOOK;clear hb4 hBl hOOK MA DA BA MB
   go_wp2_with fail
   refine TLD.out.mono ?_
   clear TLD c0 c1 c2 M4;rintro e w5 ⟨gd,gs,d,rfl,hb5,hTb,hDOK⟩;have FW:=hide (FEW.out f d hDOK OO.out);have D5:=hide (D4.out.below hb5);have B5:=hide (bel0 B4.out hb5);have O5:=hide (blk_below O4.out hb5 (blk_lt O4.out));have T5:=hide hTb;clear hb5 hTb hDOK FEW OO D4 B4 O4;generalize en1:N+1=n1 at *
   go_wp2_with fail
   go_loopg [3,8,9,10] N (fun gk nv iv _ _ wx=>∃(i:Nat),i≤N∧gk=N-i∧nv=.int .i64 ((nn+Pu.freshN f d i:Nat):Int)∧iv=.int .i64 i∧Below w5.heap.size w5 wx)
   case atStart=>exact⟨0,Nat.zero_le _,rfl,by simp [Pu.freshN],rfl,Below.refl _ _⟩
   case round=>
    obtain⟨i,il,rfl,rfl,rfl,hb⟩:=hrel;have HB:=hide hb;have fle:=Pu.freshN_le f d i;by_cases hi:i<N
    ·have d2:=dl_ (i:Int) (N:Int) (by omega)
     have wi:=wr_ (i:Int) (by omega) (by omega);have i0:=nz_ i;have i1:(i:Int)<(N:Int):=by omega
     have i2:(i:Int)<(n1:Int):=by omega
     have cf:=blk_cell (blk_below O5.out hb (blk_lt O5.out)) (bln_get f hi);clear hb
     go_wp2_with fail
     clear cf
     go_loopg [9,10] i (fun gk bv kv wx=>∃(k:Nat),k≤i∧gk=i-k∧bv=.bool (f i && (List.range k).all (fun c=>d i c))∧kv=.int .i64 k∧Below w5.heap.size w5 wx)
     case atStart=>exact⟨0,Nat.zero_le _,rfl,by simp,rfl,HB.out⟩
     case round=>
      clear HB;obtain⟨k,kl,rfl,rfl,rfl,hb⟩:=hrel;have HB:=hide hb;by_cases hk:k<i
      ·have d3:=dl_ (k:Int) (i:Int) (by omega)
       have wk:=wr_ (k:Int) (by omega) (by omega);have k0:=nz_ k;have k1:(k:Int)<(n1:Int):=by omega
       obtain⟨gi,_,q1,q2,_⟩:=(T5.out.below hb).at (show i<n1 by omega) (show k<n1 by omega)
       have NX:Hid ((f i && (List.range (k+1)).all (fun c=>d i c))=((f i && (List.range k).all (fun c=>d i c)) && d i k)):=by
        show _=_;rw [List.range_succ,List.all_append];simp [Bool.and_assoc]
       clear hb;generalize (f i && (List.range k).all (fun c=>d i c))=bo at *;generalize d i k=dk at *
       cases bo with
       | true=>
        go_wp2;go_roundg (i-(k+1))
        case measure=>omega
        case rel=>exact⟨k+1,by omega,rfl,by rw [NX.out];simp,by go_num,HB.out⟩
       | false=>
        go_wp2;go_roundg (i-(k+1))
        case measure=>omega
        case rel=>exact⟨k+1,by omega,rfl,by rw [NX.out];simp,by go_num,HB.out⟩
      ·have d3:=df_ (k:Int) (i:Int) (by omega)
       have ek:k=i:=by omega
       subst ek;have FS:=Pu.freshN_succ f d k;have FR:Hid ((f k && (List.range k).all (fun c=>d k c))=Pu.fresh f d k):=rfl;rw [FR.out];clear hb FR;have FSH:=hide FS;clear FS;have wc:IntKind.i64.wrap (((nn+Pu.freshN f d k:Nat):Int)+1)=((nn+Pu.freshN f d k:Nat):Int)+1:=wrap_in _ (by omega) (by omega)
       cases ef:Pu.fresh f d k with
       | true=>
        have NX:Hid (((nn+Pu.freshN f d (k+1):Nat):Int)=((nn+Pu.freshN f d k:Nat):Int)+1):=by
         show _=_;rw [FSH.out,ef,if_pos rfl];omega
        clear ef FSH;generalize nn+Pu.freshN f d k=cn at *;go_wp2;go_roundg (N-(k+1))
        case measure=>omega
        case rel=>exact⟨k+1,by omega,rfl,by rw [NX.out],by go_num,HB.out⟩
       | false=>
        have NX:Hid (nn+Pu.freshN f d (k+1)=nn+Pu.freshN f d k):=by
         show _=_;rw [FSH.out,ef];simp
        clear ef FSH;generalize nn+Pu.freshN f d k=cn at *;go_wp2;go_roundg (N-(k+1))
        case measure=>omega
        case rel=>exact⟨k+1,by omega,rfl,by rw [NX.out],by go_num,HB.out⟩
    ·have d2:=df_ (i:Int) (N:Int) (by omega)
     have ei:i=N:=by omega
     subst ei;have D6:=hide (D5.out.below hb);have B6:=hide (bel0 B5.out hb);clear hb;go_wp2;go_roundg (Pu.nM all-(m+1))
     case measure=>omega
     case rel=>exact⟨m+1,nn+Pu.freshN f d i,by omega,rfl,rfl,by go_num,by omega,Nat.le_trans FW.out (Nat.add_le_add_right NE.out _),D6.out,B6.out⟩
  ·have d1:=df_ (m:Int) (Pu.nM all:Int) (by omega)
   have em:m=Pu.nM all:=by omega
   have R:Hid (Pu.nexts (Pu.compP all).code≤nn):=by
    show _≤_;rw [←Pu.needM_all,←em];exact hne
   clear hD hb hne NE;go_wp2;go_ret;exact⟨nn,rfl,BB.out,R.out⟩
end Go.Proofs.Ytmccnmgaoppogaa
