/-
 The walks: the document's Read. (weirref)
 The walks: an error's number. (weirlaw)
-/
import Derived.Test.YtmccnmgaoppogaaGreatH25
import Derived.Test.YtmccnmgaoppogaaGreatFC
namespace Go.Proofs.YtmccnmgaoppogaaGreat
set_option maxRecDepth 100000
set_option maxHeartbeats 8000000
open Go.RowKit
def RetSets (k:Nat) (w:World) (e:Ending) (w':World):Prop:=∃a c,e=.returned (.slice a k c)∧Below w.heap.size w w'
theorem sets_any (g n:Nat) (mode:Int) (S:List (Nat→Bool)) (w:World) (hS:0<S.length) (hm:Calls Tryz.prog 65 #[.pointer (some ⟨g,0,none⟩),.int .i64 mode] w (RetMach S n w)) :
  Calls Tryz.prog 30 #[.pointer (some ⟨g,0,none⟩),.int .i64 mode] w (RetSets (S.length-1) w):=by
 have CALL:=hide hm
 clear hm
 go_enter Tryz.func30,Tryz.ntmps30
 go_wp2_with fail
 refine CALL.out.mono ?_
 clear CALL
 rintro e w2 ⟨vS,vT,vR,gss,rfl,⟨aT,nT,cT,rfl⟩,⟨aR,nR,cR,rfl⟩,hb,hs⟩
 obtain⟨gS,cS,evS,hc,_⟩:=own_some hs.own (by rw [hs.len];exact hS)
 subst evS
 have B2:Hid (∀o,Below w.heap.size w (w2.alloc o)):=fun o=>hb.alloc hb.size _
 have SL:Hid (gss.length=S.length):=hs.len
 have i0:(1:Int)≤(gss.length:Int):=by have:=hs.len;omega
 have i1:(gss.length:Int)≤(cS:Int):=by omega
 clear hs hb
 go_wp2
 all_goals
  go_ret;exact⟨_,_,by rw [SL.out];rfl,B2.out _⟩
namespace Pure
def CkAll (all:List Ln) (en no:Int):Prop:=
 (∃i:Nat,FirstL dnL all i∧en=11∧no=i)∨(NoL dnL all∧∃i:Nat,FirstL emL all i∧en=12∧no=i)∨
   (NoL dnL all∧NoL emL all∧((∃m:Nat,m<nM all∧42<(setsOf all m).length∧(∀j,j<m→(setsOf all j).length≤42)∧en=13∧no=m)∨((∀j,j<nM all→(setsOf all j).length≤42)∧en=0∧no=0)))
theorem FirstL.same {f:Ln→Bool} {all:List Ln} {i j:Nat} (h:FirstL f all i) (h':FirstL f all j):i=j:=by
 obtain⟨⟨x,hx,fx⟩,h1⟩:=h
 obtain⟨⟨y,hy,fy⟩,h2⟩:=h'
 rcases Nat.lt_trichotomy i j with k | k | k
 ·have:=h2 i x k hx
  rw [fx] at this;cases this
 ·exact k
 ·have:=h1 j y k hy
  rw [fy] at this;cases this
theorem FirstL.no {f:Ln→Bool} {all:List Ln} {i:Nat} (h:FirstL f all i) (h':NoL f all):False:=by
 obtain⟨⟨x,hx,fx⟩,_⟩:=h
 have:=h' x (List.mem_of_getElem? hx)
 rw [fx] at this
 cases this
section
variable {all:List Ln} {en no:Int}
theorem CkAll.down (h:CkAll all en no) {i:Nat} (hi:FirstL dnL all i):en=11∧no=i:=by
 rcases h with ⟨j,hj,h1,h2⟩ | ⟨hn,_⟩ | ⟨hn,_⟩
 ·exact⟨h1,by rw [hi.same hj];exact h2⟩
 ·exact (hi.no hn).elim
 ·exact (hi.no hn).elim
theorem CkAll.empty (h:CkAll all en no) (hd:NoL dnL all) {i:Nat} (hi:FirstL emL all i):en=12∧no=i:=by
 rcases h with ⟨j,hj,_,_⟩ | ⟨_,j,hj,h1,h2⟩ | ⟨_,hn,_⟩
 ·exact (hj.no hd).elim
 ·exact⟨h1,by rw [hi.same hj];exact h2⟩
 ·exact (hi.no hn).elim
theorem CkAll.many (h:CkAll all en no) (hd:NoL dnL all) (he:NoL emL all) {m:Nat} (hm:m<nM all) (h42:42<(setsOf all m).length) (hb:∀j,j<m→(setsOf all j).length≤42):en=13∧no=m:=by
 rcases h with ⟨j,hj,_,_⟩ | ⟨_,j,hj,h1,h2⟩ | ⟨_,_,⟨j,hj,k1,k2,h1,h2⟩ | ⟨hj,_,_⟩⟩
 ·exact (hj.no hd).elim
 ·exact (hj.no he).elim
 ·refine⟨h1,?_⟩
  rcases Nat.lt_trichotomy m j with k | k | k
  ·have:=k2 m k
   omega
  ·rw [k];exact h2
  ·have:=hb j k
   omega
 ·have:=hj m hm
  omega
theorem CkAll.fine (h:CkAll all en no) (hd:NoL dnL all) (he:NoL emL all) (hb:∀j,j<nM all→(setsOf all j).length≤42):en=0∧no=0:=by
 rcases h with ⟨j,hj,_,_⟩ | ⟨_,j,hj,h1,h2⟩ | ⟨_,_,⟨j,hj,k1,k2,h1,h2⟩ | ⟨hj,h1,h2⟩⟩
 ·exact (hj.no hd).elim
 ·exact (hj.no he).elim
 ·have:=hb j hj
  omega
 ·exact⟨h1,h2⟩
end
theorem Lns.nodes {s:ByteArray} {i:Nat} {ls all:List Ln} (h:Lns s i ls all):(allD ls).ns.length≤2*i→(allD all).ns.length≤2*s.size+2:=by
 induction h with
 | done h1=>
  intro hl;have:=h1.size;rw [allD_snoc];simp only [addD,List.length_append,nodes_length];omega
 | more h1 h2 h3 h4 ih=>
  intro hl;refine ih ?_
  have:=h1.size;rw [allD_snoc];simp only [addD,List.length_append,nodes_length];omega
end Pure
structure Dl (w:World) (s:ByteArray) (all:List Pure.Ln) (g:Nat) (vn:Value) (al:Option Addr) (cl:Nat) (W:World):Prop where
 dr:Dr w.heap.size g s (s.size+1) (Pure.allD all).ns vn (.slice al (Pure.allD all).ls.length cl) (Pure.allD all).modes (Pure.allD all).down W
 ln:W.ownsRow w.heap.size 101 5 (.slice al (Pure.allD all).ls.length cl) (Pure.allD all).ls.length (dlC (Pure.allD all).ls)
 be:Below w.heap.size w W
theorem Dl.below {w W W':World} {s:ByteArray} {all:List Pure.Ln} {g:Nat} {vn:Value} {al:Option Addr} {cl:Nat} (h:Dl w s all g vn al cl W) (hb:Below W.heap.size W W'):Dl w s all g vn al cl W':=
 ⟨h.dr.below hb,own_below h.ln hb lr_,h.be.trans (hb.mono h.be.size)⟩
def MachH (s:ByteArray):Prop:=∀(B g i0:Nat) (ls:List Pure.Ln) (ns:List Pure.Nd) (dls:List DLn) (vn:Value) (al:Option Addr) (cl:Nat) (modes down:Int),ns.length≤100000→0<ns.length→ls.length≤1000→∀(mode:Int) (w:World),Dr B g s i0 ns vn (.slice al dls.length cl) modes down w→w.ownsRow B 101 5 (.slice al dls.length cl) dls.length (dlC dls)→Pure.AD ls ⟨ns,dls,modes,down⟩→Calls Tryz.prog 65 #[.pointer (some ⟨g,0,none⟩),.int .i64 mode] w (RetMach (Pure.machS ls ns mode) ns.length w)
def RetDR (s:ByteArray) (en no:Int) (w:World) (e:Ending) (w':World):Prop:=
 ∃p,e=.returned (.tuple #[p,.int .i64 en,.int .i64 no])∧Below w.heap.size w w'∧(en=0→∃all g vn al cl,Pure.Lns s 0 [] all∧p=.pointer (some ⟨g,0,none⟩)∧Dl w s all g vn al cl w')
theorem dRead_any (s:ByteArray) (en no:Int) (hP:Pure.PCheck s en no) (w:World)
  (MACH:MachH s) :
  Calls Tryz.prog 12 #[.string s] w (RetDR s en no w):=by
 have HMACH:=hide MACH
 clear MACH
 go_enter Tryz.func12,Tryz.ntmps12
 rcases hP with ⟨hs,rfl,rfl⟩ | ⟨hs,k,hF,rfl,rfl⟩ | ⟨hs,all,hA,hC⟩
 ·have d1:=dl_ (300:Int) (s.size:Int) (by omega)
  go_wp2;go_ret3;exact⟨_,rfl,Below.refl _ _,fun e=>by cases e⟩
 ·have d1:=df_ (300:Int) (s.size:Int) (by omega)
  have H:=hide hF.at;clear hF
  go_wp2_with fail
  refine (syntax_any s w (by omega)).mono ?_
  rintro e w2 ⟨rfl,⟨k',h1,rfl⟩ | ⟨q,h1,h2,rfl⟩⟩
  ·have ek:=Pure.Halts.same H.out h1
   subst ek;clear h1 H;go_wp2;go_ret3;exact⟨_,rfl,Below.refl _ _,fun e=>by cases e⟩
  ·exact (H.out.not h1 h2).elim
 ·have d1:=df_ (300:Int) (s.size:Int) (by omega)
  have HA:=hide hA;have HC:=hide hC;have AD0:=Pure.allD_ad all hA.bds.1;have LEN:=hA.bds;clear hA hC
  go_wp2_with fail
  refine (syntax_any s w (by omega)).mono ?_
  rintro e w2 ⟨rfl,⟨k',h1,rfl⟩ | ⟨q,h1,h2,rfl⟩⟩
  ·obtain⟨q,g1,g2⟩:=HA.out.accepts
   exact (h1.not g1 g2).elim
  ·clear h1 h2
   go_wp2_with fail
   refine (dread_any s (by omega) all HA.out w2).mono ?_
   rintro e w3 ⟨g,vn,al,cl,rfl,hb,hd,hl⟩;have DL3:Hid (Dl w2 s all g vn al cl w3):=⟨hd,hl,hb⟩;have c3:=bc_ 3 hd.rb rfl;clear hb hd hl;have nsl:(Pure.allD all).ns.length≤100000:=by have:=HA.out.nodes (Nat.zero_le _);omega
   have nsp:0<(Pure.allD all).ns.length:=by
    rw [AD0.net.len];obtain⟨x,hx⟩:=gx_ all 0 (by omega);have h1:=Pure.nbase_take_succ hx;have h2:=Pure.nbase_take_le all (0+1);have:=x.re.size_pos;omega
   have MD:(Pure.allD all).modes=(Pure.nM all:Int):=by
    rcases AD0.modes with ⟨h1,_⟩ | h1
    ·rw [h1] at LEN
     simp at LEN
    ·rw [h1]
     exact (Pure.nM_bd LEN.1).1
   have nm4:=(Pure.nM_bd LEN.1).2.2;have AG:=hide AD0;have CK:Hid (Pure.CkAll all en no):=HC.out;have ll:(Pure.allD all).ls.length=all.length:=Pure.allD_length all;rcases AD0.down with ⟨h1,hND⟩ | ⟨i,h1,hFD⟩
   ·rw [h1] at c3
    clear AD0 h1
    go_wp2_with fail
    go_loopg [8,9] all.length (fun gk iv _ wx=>∃(i:Nat),i≤all.length∧gk=all.length-i∧iv=.int .i64 i∧Dl w2 s all g vn al cl wx∧∀(j:Nat) (y:Pure.Ln),j<i→all[j]?=some y→y.re.empt=false)
    case atStart=>exact⟨0,Nat.zero_le _,rfl,rfl,DL3.out,fun j y hj=>absurd hj (Nat.not_lt_zero _)⟩
    case round=>
     clear DL3 c3;obtain⟨i,il,rfl,rfl,hD,hE⟩:=hrel;have c2:=bc_ 2 hD.dr.rb rfl;rw [ll] at c2;by_cases hi:i<all.length
     ·have d3:=dl_ (i:Int) (all.length:Int) (by omega)
      have wi:=wr_ (i:Int) (by omega) (by omega);have ii0:=nz_ i;have ii1:(i:Int)<(all.length:Int):=by omega
      obtain⟨x,hx⟩:=gx_ all i hi;have hdx:=AG.out.get i x hx;obtain⟨gv,cv,ev,_,_⟩:=own_some hD.ln (by omega);cases ev;have q4:wr.cell? ⟨gv,i*5+4,none⟩=some (.int .i64 ((Pure.nbase (all.take i)+x.re.size-1:Nat):Int)):=own_cell hD.ln (dlC_get hdx (j:=4) (by omega));have CALL:=hide (empty_any _ _ _ _ _ _ _ _ _ nsl x.re (Pure.nbase (all.take i)) wr hD.dr (AG.out.net.at' i x hx));have HD:=hide hD;have HE:=hide hE;have HX:=hide hx;clear hD hE hdx hx
      go_wp2_with fail
      refine CALL.out.mono ?_
      clear CALL c2 q4;rintro e w4 ⟨rfl,hb4⟩;have D4:=hide (HD.out.below hb4);clear hb4 HD
      cases ee:x.re.empt with
      | true=>
       obtain⟨rfl,rfl⟩:=CK.out.empty hND (i:=i) ⟨⟨x,HX.out,ee⟩,fun j y hj hy=>HE.out j y hj hy⟩;clear ee;go_wp2;go_ret3;exact⟨_,rfl,D4.out.be,fun e=>by cases e⟩
      | false=>
       have HE2:Hid (∀(j:Nat) (y:Pure.Ln),j<i+1→all[j]?=some y→y.re.empt=false):=fun j y hj hy=>by
        by_cases e:j=i
        ·subst e
         rw [HX.out] at hy;cases hy;exact ee
        ·exact HE.out j y (by omega) hy
       clear ee HE;go_wp2;go_roundg (all.length-(i+1))
       case measure=>omega
       case rel=>exact⟨i+1,by omega,rfl,by go_num,D4.out,HE2.out⟩
     ·have d3:=df_ (i:Int) (all.length:Int) (by omega)
      have hNE:Hid (Pure.NoL Pure.emL all):=fun y hy=>by
       obtain⟨j,hj⟩:=List.getElem?_of_mem hy;exact hE j y (by have:=Pure.get_lt hj;omega) hj
      have HD:=hide hD;clear hD hE
      go_wp2_with fail
      clear c2
      go_loopg [10,11] (Pure.nM all) (fun gk mv _ wx=>∃(m:Nat),m≤Pure.nM all∧gk=Pure.nM all-m∧mv=.int .i64 m∧Dl w2 s all g vn al cl wx∧∀j,j<m→(Pure.setsOf all j).length≤42)
      case atStart=>exact⟨0,Nat.zero_le _,rfl,rfl,HD.out,fun j hj=>absurd hj (Nat.not_lt_zero _)⟩
      case round=>
       clear HD;obtain⟨m,ml,rfl,rfl,hD,hM⟩:=hrel;have c0:=bc_ 0 hD.dr.rb rfl;rw [MD] at c0;by_cases hm:m<Pure.nM all
       ·have d4:=dl_ (m:Int) (Pure.nM all:Int) (by omega)
        have wm:=wr_ (m:Int) (by omega) (by omega);have FL:=Pure.find_len (mode:=(m:Int)) (Pure.allLn_lin all) AG.out.net;have FL2:(Pure.setsOf all m).length=(Pure.machS all (Pure.allD all).ns (m:Int)).length+1:=FL
        have SP:0<(Pure.machS all (Pure.allD all).ns (m:Int)).length:=by
         have:=(Pure.find_mach (mode:=(m:Int)) (Pure.allLn_lin all) AG.out.net);obtain⟨T,hT⟩:=this.hd;rw [this.eq,hT];simp
        have CALL:=hide (sets_any g _ (m:Int) _ wr SP (HMACH.out _ g _ all _ (Pure.allD all).ls _ al cl _ _ nsl nsp (by omega) (m:Int) wr hD.dr hD.ln AG.out));have HD:=hide hD;have HM:=hide hM;have FL3:=hide FL2;clear hD hM FL FL2
        go_wp2_with fail
        refine CALL.out.mono ?_
        clear CALL c0;rintro e w4 ⟨a4,c4,rfl,hb4⟩;have D4:=hide (HD.out.below hb4);clear hb4 HD;generalize hk:(Pure.machS all (Pure.allD all).ns (m:Int)).length-1=k at *;by_cases h40:40<k
        ·have d5:=dl_ (40:Int) (k:Int) (by omega)
         obtain⟨rfl,rfl⟩:=CK.out.many hND hNE.out hm (by rw [FL3.out];omega) HM.out;go_wp2;go_ret3;exact⟨_,rfl,D4.out.be,fun e=>by cases e⟩
        ·have d5:=df_ (40:Int) (k:Int) (by omega)
         have HM2:Hid (∀j,j<m+1→(Pure.setsOf all j).length≤42):=fun j hj=>by
          by_cases e:j=m
          ·subst e
           rw [FL3.out];omega
          ·exact HM.out j (by omega)
         go_wp2;go_roundg (Pure.nM all-(m+1))
         case measure=>omega
         case rel=>exact⟨m+1,by omega,rfl,by go_num,D4.out,HM2.out⟩
       ·have d4:=df_ (m:Int) (Pure.nM all:Int) (by omega)
        obtain⟨rfl,rfl⟩:=CK.out.fine hND hNE.out (fun j hj=>hM j (by omega));have HD:=hide hD;clear hD hM;go_wp2;go_ret3;exact⟨_,rfl,HD.out.be,fun _=>⟨all,g,vn,al,cl,HA.out,rfl,HD.out⟩⟩
   ·rw [h1] at c3
    have d2:decide ((0:Int)≤(i:Int))=true:=decide_eq_true (by omega);obtain⟨rfl,rfl⟩:=CK.out.down hFD;clear AD0 h1
    go_wp2_with fail
    go_quiet (fail);have dn:=hide (below_drewN DL3.out.be nq);go_wp2;go_ret3;exact⟨_,rfl,dn.out,fun e=>by cases e⟩
theorem num_any (n:Int) (w:World):Calls Tryz.prog 13 #[.int .i64 n] w (RetVal (.int .i64 n) w):=by
 go_enter Tryz.func13,Tryz.ntmps13
 go_wp2
 go_ret
 exact⟨rfl,Below.refl _ _⟩
end Go.Proofs.YtmccnmgaoppogaaGreat
