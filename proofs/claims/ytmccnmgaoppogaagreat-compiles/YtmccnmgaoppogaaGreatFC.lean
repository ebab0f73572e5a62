/-
 The walks: read, Check. (weir)
 The walks: Check. (weir)
-/
import Derived.Test.YtmccnmgaoppogaaGreatF8
namespace Go.Proofs.YtmccnmgaoppogaaGreat
set_option maxRecDepth 100000
set_option maxHeartbeats 8000000
open Go.RowKit
namespace Pure
theorem Lns.base {s:ByteArray} {i:Nat} {ls all:List Ln} (h:Lns s i ls all):Pure.base ls≤i→Pure.base all≤s.size:=by
 induction h with
 | done h1=>intro hb;rw [base_append,base_one];have:=h1.le;omega
 | more h1 _ _ _ ih=>intro hb;refine ih ?_;rw [base_append,base_one];have:=h1.le;omega
theorem Lns.base_le {s:ByteArray} {all:List Ln} (h:Lns s 0 [] all):Pure.base all≤s.size:=h.base lr_
end Pure
theorem plm_mono {B B':Nat} {W:World} {v:Value} {ps:List Pure.Pl} (h:Plm B W v ps) (hb:B'≤B):Plm B' W v ps:=by
 obtain⟨qs,h1,h2,h3⟩:=h
 exact⟨qs,own_mono h1 hb,h2,h3⟩
theorem two_text (w:World):Blk (w.alloc (.cells #[.int .i64 0,.slice none 0 0,.slice none 0 0] 78)) w.heap.size 78 [.int .i64 0,.slice none 0 0,.slice none 0 0]:=heap_alloc_new _ _
theorem read_anyR (s:ByteArray) (w:World):Calls Tryz.prog 23 #[.string s] w (RetRd s w):=by
 have TB:=hide (two_text w)
 have B0:Hid (Below w.heap.size w (w.alloc (.cells #[.int .i64 0,.slice none 0 0,.slice none 0 0] 78))):=(Below.refl w.heap.size w).alloc lr_ _
 go_enter Tryz.func23,Tryz.ntmps23
 go_wp2_with fail
 generalize w.alloc (.cells #[.int .i64 0,.slice none 0 0,.slice none 0 0] 78)=W0 at *
 refine (rulesRead_any s W0).mono ?_
 rintro e w1 ⟨v,en,no,rfl,hb1,hrd⟩
 have TB1:=hide (blk_below TB.out hb1 (blk_lt TB.out))
 have B1:=hide (bel0 B0.out hb1)
 have szz:=B0.out.size
 clear TB B0
 by_cases he:en=0
 ·subst he
  have hOK:s.size≤300∧∃all,Pure.Lns s 0 [] all∧Pure.NoL Pure.dnL all∧Pure.NoL Pure.emL all∧∃al nl cl ap np cp,v=.agg #[.int .i64 (Pure.nModes (Pure.allLn all).1),.slice al nl cl,.slice ap np cp]∧no=0∧Lm W0.heap.size w1 (.slice al nl cl) (Pure.allLn all).1∧Plm W0.heap.size w1 (.slice ap np cp) (Pure.allLn all).2:=by
   rcases hrd with ⟨_,_,e,_⟩ | ⟨_,k,_,_,e,_⟩ | ⟨hs,all,hL,h⟩
   ·cases e
   ·cases e
   ·rcases h with ⟨i,_,_,e,_⟩ | ⟨_,i,_,_,e,_⟩ | ⟨h1,h2,al,nl,cl,ap,np,cp,hv,_,hno,lm,pl⟩
    ·cases e
    ·cases e
    ·exact⟨hs,all,hL,h1,h2,al,nl,cl,ap,np,cp,hv,hno,lm,pl⟩
  obtain⟨hs,all,hL,hD,hE,al,nl,cl,ap,np,cp,rfl,rfl,lm,pl⟩:=hOK;have bds:=hL.bds;have nm:=Pure.nM_bd bds.1;rw [nm.1];have lin:=Pure.allLn_lin all;have plen:(Pure.allLn all).2.length≤1000:=by rw [lin.len];exact Nat.le_trans (hL.base_le) (by omega)
  have llen:(Pure.allLn all).1.length≤1000:=by rw [lin.n];omega
  have HD:=hide hD;have HE:=hide hE;have HLN:=hide hL;have POK:=hide lin.ok
  have PTS:Hid (∀x∈(Pure.allLn all).1,Pure.PtOK (Pure.allLn all).2.length x.pt):=by
   have:=lin.pts;rw [←lin.len] at this;exact this
  have hb2:=(Below.refl w1.heap.size w1).alloc lr_ (.cells #[.int .i64 (Pure.nM all:Nat),.slice al nl cl,.slice ap np cp] 78);have hb3:=hb2.alloc (by simp) (.cells #[] 87);have nml:=nm.2
  have I0:Hid (RI w w.heap.size w1.heap.size all al nl cl ap np cp 0 (.slice (some ⟨w1.heap.size+1,0,none⟩) 0 0) ((w1.alloc (.cells #[.int .i64 (Pure.nM all:Nat),.slice al nl cl,.slice ap np cp] 78)).alloc (.cells #[] 87))):=by
   have on:=own_none (w1.alloc (.cells #[.int .i64 (Pure.nM all:Nat),.slice al nl cl,.slice ap np cp] 78)) 87 1;rw [World.size_alloc] at on;have szw:=B1.out.size;exact⟨bel0 B1.out hb3,blk_below TB1.out hb3 (blk_lt TB1.out),blk_alloc (heap_alloc_new _ _) _,(lm.mono szz).below hb3,(plm_mono pl szz).below hb3,⟨[],own_mono on (by omega),rfl,fun j u ss hu=>by simp at hu⟩,fun j hj=>by omega,lr_⟩
  clear hb1 hrd hb2 hb3 lm pl hL hD hE bds nm TB1 B1 lin
  go_wp2_with fail
  generalize hW2:(w1.alloc (.cells #[.int .i64 (Pure.nM all:Nat),.slice al nl cl,.slice ap np cp] 78)).alloc (.cells #[] 87)=W2 at *;generalize hgB:w1.heap.size=gB at *
  go_loopg [9,10,11,12] (Pure.nM all) (fun gk fv mv _ _ wx=>∃(m:Nat) (f:Value),m≤Pure.nM all∧gk=Pure.nM all-m∧fv=f∧mv=.int .i64 m∧RI w w.heap.size gB all al nl cl ap np cp m f wx)
  case atStart=>exact⟨0,_,Nat.zero_le _,rfl,rfl,rfl,I0.out⟩
  case round=>
   clear I0;obtain⟨m,f,ml,rfl,rfl,rfl,hI⟩:=hrel;have HI:=hide hI;have b0:=bc_ 0 hI.b rfl;have b1:=bc_ 1 hI.b rfl;have b2:=bc_ 2 hI.b rfl;obtain⟨vs,fo,fl,fs⟩:=hI.fd;obtain⟨av,cv,rfl,_,_⟩:=own_fm fo;have FO:=hide fo;have FS:=hide fs;have vl:vs.length=m:=by rw [fl];simp [Pure.foundOf]
   have vlb:vs.length≤4:=by omega
   have VL:=hide vl;clear vl;clear hI fo fl fs;by_cases hlt:m<Pure.nM all
   ·have d1:=dl_ (m:Int) (Pure.nM all:Int) (by omega)
    have wi:=wr_ (m:Int) (by omega) (by omega)
    go_wp2_with fail
    refine (find_any w.heap.size _ (m:Int) al ap nl cl np cp (Pure.allLn all).1 (Pure.allLn all).2 wr HI.out.lm HI.out.pl POK.out plen llen PTS.out).mono ?_
    clear b0 b1 b2;rintro e w3 ⟨hb3,(⟨hfew,vs3,rfl,hset⟩ | ⟨hmany,rfl⟩)⟩
    ·have I3:=hide (HI.out.below hb3)
     have FO3:=hide (own_below FO.out hb3 lr_);have SET:=hide (hset.mono HI.out.be.size);obtain⟨a3,c3,rfl⟩:=hset.form;have FS3:Hid (∀(j:Nat) (u:Value) (ss:List Pure.St),vs[j]?=some u→(Pure.foundOf all m)[j]?=some ss→Setm w.heap.size w3 u ss∧∃a n c,u=.slice a n c):=fun j u ss h1 h2=>⟨(FS.out j u ss h1 h2).1.below hb3,(FS.out j u ss h1 h2).2⟩
     clear hb3 hset HI FO FS;have hb4:=(Below.refl w3.heap.size w3).alloc lr_ (.cells #[.slice a3 (Pure.findS (Pure.allLn all).1 (Pure.allLn all).2 (m:Int)).length c3] 87);have I4:=hide (I3.out.below hb4);have FO4:=hide (own_below FO3.out hb4 lr_);have SET4:=hide (SET.out.below hb4);have FS4:Hid (∀(j:Nat) (u:Value) (ss:List Pure.St),vs[j]?=some u→(Pure.foundOf all m)[j]?=some ss→Setm w.heap.size (w3.alloc (.cells #[.slice a3 (Pure.findS (Pure.allLn all).1 (Pure.allLn all).2 (m:Int)).length c3] 87)) u ss∧∃a n c,u=.slice a n c):=fun j u ss h1 h2=>⟨(FS3.out j u ss h1 h2).1.below hb4,(FS3.out j u ss h1 h2).2⟩
     have BN:Hid (Blk (w3.alloc (.cells #[.slice a3 (Pure.findS (Pure.allLn all).1 (Pure.allLn all).2 (m:Int)).length c3] 87)) w3.heap.size 87 [.slice a3 (Pure.findS (Pure.allLn all).1 (Pure.allLn all).2 (m:Int)).length c3]):=heap_alloc_new _ _;have sz4:=I4.out.be.size;clear hb4 I3 FO3 SET FS3;generalize hsl:(Pure.findS (Pure.allLn all).1 (Pure.allLn all).2 (m:Int)).length=sln at *
     go_wp2_with (at_builtin;go_must (refine wpList_append_sl rfl (.tmp 41) (.tmp 43) rfl w.heap.size _ vs rfl FO4.out w3.heap.size (.slice a3 sln c3) rfl BN.out rfl (by omega) sz4 ?_);intro v5 w5 hown5 hgrow5)
     have kt:Kt 87 _ w5:=Kt.row FO4.out hgrow5
     have I5:Hid (RI w w.heap.size gB all al nl cl ap np cp (m+1) v5 w5):=by
      refine⟨I4.out.be.grown hgrow5 sz4 (fun k' h=>(World.ownsRow.lt FO4.out k' h).1),kt.block I4.out.r (by decide),kt.block I4.out.b (by decide),kt.lm I4.out.lm (by decide) (by decide),kt.plm I4.out.pl (by decide) (by decide),⟨_,hown5,by simp [Pure.foundOf,VL.out],fun j u ss h1 h2=>?_⟩,fun j hj=>?_,I4.out.ap⟩
      ·unfold Pure.foundOf at h2
       rw [List.range_succ,List.map_append] at h2;rcases Pure.snoc_get h1 with ⟨hl,hk⟩ | ⟨rfl,rfl⟩
       ·rw [List.getElem?_append_left (by have:=VL.out;simp;omega)] at h2
        exact⟨kt.setm (FS4.out j u ss hk h2).1 (by decide) (by decide),(FS4.out j u ss hk h2).2⟩
       ·rw [List.getElem?_append_right (by have:=VL.out;simp;omega)] at h2
        simp [VL.out] at h2;subst h2;exact⟨kt.setm SET4.out (by decide) (by decide),_,_,_,rfl⟩
      ·by_cases e:j=m
       ·subst e
        show (Pure.findS (Pure.allLn all).1 (Pure.allLn all).2 (j:Int)).length≤42;rw [hsl];exact hfew
       ·exact I4.out.ok j (by omega)
     clear kt hown5 hgrow5 I4 FO4 SET4 FS4 BN;go_roundg (Pure.nM all-(m+1))
     case measure=>omega
     case rel=>exact⟨m+1,_,hlt,rfl,rfl,by go_num,I5.out⟩
    ·have I3:=hide (HI.out.below hb3)
     have FF:Hid (Pure.PCheck s 13 m):=.inr (.inr ⟨hs,all,HLN.out,.inr (.inr ⟨HD.out,HE.out,.inl ⟨m,hlt,hmany,HI.out.ok,rfl,rfl⟩⟩)⟩);clear hb3 HI FO FS;obtain⟨ld,bF⟩:=text_fin I3.out.be I3.out.r I3.out.ap (.int .i64 0) (.slice none 0 0) (.slice none 0 0);have BF:=hide bF;have z0:=bc_ 0 I3.out.r rfl;have z1:=bc_ 1 I3.out.r rfl;have z2:=bc_ 2 I3.out.r rfl;have f0:=blk_frozen I3.out.r 0;have f1:=blk_frozen I3.out.r 1;have f2:=blk_frozen I3.out.r 2;clear bF;go_wp2;exact bodyPost_ret (by simp [results,Tryz.results23,asAddr,Result.andThen,ld]) rfl ⟨_,_,_,_,_,_,rfl,BF.out,FF.out,fun _=>⟨rfl,rfl⟩,fun e=>(by cases e)⟩
   ·have d1:=df_ (m:Int) (Pure.nM all:Int) (by omega)
    have em:m=Pure.nM all:=by omega
    obtain⟨ld,bF⟩:=text_fin HI.out.be HI.out.r HI.out.ap (.int .i64 (Pure.nM all:Nat)) (.slice al nl cl) (.slice ap np cp);have BF:=hide bF;have kt:=Kt.blk HI.out.r (three_set wr w.heap.size (.int .i64 (Pure.nM all:Nat)) (.slice al nl cl) (.slice ap np cp))
    have HFD:Hid (Fnd w.heap.size (set3 wr w.heap.size (.int .i64 (Pure.nM all:Nat)) (.slice al nl cl) (.slice ap np cp)) (.slice av vs.length cv) (Pure.foundOf all (Pure.nM all))):=by
     have hfn:Fnd w.heap.size (set3 wr w.heap.size (.int .i64 (Pure.nM all:Nat)) (.slice al nl cl) (.slice ap np cp)) (.slice av vs.length cv) (Pure.foundOf all m):=⟨vs,kt.rows FO.out (by decide),by simp [Pure.foundOf,VL.out],fun j u ss h1 h2=>⟨kt.setm (FS.out j u ss h1 h2).1 (by decide) (by decide),(FS.out j u ss h1 h2).2⟩⟩;have e2:Pure.foundOf all m=Pure.foundOf all (Pure.nM all):=by rw [em]
     rw [e2] at hfn;exact hfn
    have HLM:=hide (kt.lm HI.out.lm (by decide) (by decide));have HPM:=hide (kt.plm HI.out.pl (by decide) (by decide));have OKM:Hid (∀j,j<Pure.nM all→(Pure.setsOf all j).length≤42):=by rw [←em];exact HI.out.ok
    have FF:Hid (Pure.PCheck s 0 0):=.inr (.inr ⟨hs,all,HLN.out,.inr (.inr ⟨HD.out,HE.out,.inr ⟨OKM.out,rfl,rfl⟩⟩)⟩);have z0:=bc_ 0 HI.out.r rfl;have z1:=bc_ 1 HI.out.r rfl;have z2:=bc_ 2 HI.out.r rfl;have f0:=blk_frozen HI.out.r 0;have f1:=blk_frozen HI.out.r 1;have f2:=blk_frozen HI.out.r 2;clear bF kt FO FS;go_wp2;exact bodyPost_ret (by simp [results,Tryz.results23,asAddr,Result.andThen,ld]) rfl ⟨_,_,_,_,_,_,rfl,BF.out,FF.out,fun h=>absurd rfl h,fun _=>⟨all,_,_,_,_,_,_,HLN.out,HD.out,HE.out,OKM.out,rfl,rfl,rfl,HLM.out,HPM.out,HFD.out⟩⟩
 ·have hz:v=textZ∧Pure.PCheck s en no:=by
   rcases hrd with ⟨h1,h2,h3,h4⟩ | ⟨h0,k,h1,h2,h3,h4⟩ | ⟨hs,all,hL,h⟩
   ·exact⟨h2,.inl ⟨h1,h3,h4⟩⟩
   ·exact⟨h2,.inr (.inl ⟨h0,k,h1,h3,h4⟩)⟩
   ·rcases h with ⟨i,h1,h2,h3,h4⟩ | ⟨h0,i,h1,h2,h3,h4⟩ | ⟨_,_,_,_,_,_,_,_,_,h3,_⟩
    ·exact⟨h2,.inr (.inr ⟨hs,all,hL,.inl ⟨i,h1,h3,h4⟩⟩)⟩
    ·exact⟨h2,.inr (.inr ⟨hs,all,hL,.inr (.inl ⟨h0,i,h1,h3,h4⟩)⟩)⟩
    ·exact absurd h3 he
  obtain⟨rfl,hpc⟩:=hz;have FF:=hide hpc;have e0:(en != 0)=true:=by simpa using he
  have hb2:=(Below.refl w1.heap.size w1).alloc lr_ (.cells #[.int .i64 0,.slice none 0 0,.slice none 0 0] 78);have TB2:=hide (blk_below TB1.out hb2 (blk_lt TB1.out));obtain⟨ld,bF⟩:=text_fin (gR:=w.heap.size) (bel0 B1.out hb2) TB2.out lr_ (.int .i64 0) (.slice none 0 0) (.slice none 0 0);have BF:=hide bF;have z0:=bc_ 0 TB2.out rfl;have z1:=bc_ 1 TB2.out rfl;have z2:=bc_ 2 TB2.out rfl;have f0:=blk_frozen TB2.out 0;have f1:=blk_frozen TB2.out 1;have f2:=blk_frozen TB2.out 2;have HE:=hide he;clear hb1 hrd hpc bF TB1 B1 hb2 he;go_upto_region 2 with (fail);generalize w1.alloc (.cells #[.int .i64 0,.slice none 0 0,.slice none 0 0] 78)=W2 at *;go_wp2;exact bodyPost_ret (by simp [results,Tryz.results23,asAddr,Result.andThen,ld]) rfl ⟨_,_,_,_,_,_,rfl,BF.out,FF.out,fun _=>⟨rfl,rfl⟩,fun e=>absurd e HE.out⟩
end Go.Proofs.YtmccnmgaoppogaaGreat
