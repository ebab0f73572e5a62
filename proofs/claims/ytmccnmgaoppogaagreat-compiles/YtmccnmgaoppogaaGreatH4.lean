/-
 The walks: the document's syntax. (weirref)
-/
import Derived.Test.YtmccnmgaoppogaaGreatHA
import Derived.Deep.CutRange
namespace Go.Proofs.YtmccnmgaoppogaaGreat
set_option maxRecDepth 100000
set_option maxHeartbeats 8000000
open Go.RowKit
namespace Pure
theorem whenM_rng {p:Prop} [Decidable p] {a:Int} (h:0≤a∧a≤15):0≤whenM p a∧whenM p a≤16:=by
 unfold whenM
 split <;> omega
theorem mAtom_rng (c d:Int):0≤(mAtom c d).1∧(mAtom c d).1≤16∧d≤(mAtom c d).2∧(mAtom c d).2≤d+1:=by
 unfold mAtom
 have:=whenM_rng (p:=Plain c) (a:=3) (by omega)
 split
 ·simp only;omega
 ·split
  ·simp only;omega
  ·split
   ·simp only;omega
   ·split
    ·simp only;omega
    ·simp only;omega
theorem mMore_rng (c d:Int):0≤(mMore c d).1∧(mMore c d).1≤16∧d-1≤(mMore c d).2∧(mMore c d).2≤d+1:=by
 have h1:=mAtom_rng c d
 have h2:=whenM_rng (p:=0<d) (a:=3) (by omega)
 have h3:=whenM_rng (p:=d=0) (a:=12) (by omega)
 unfold mMore
 split
 ·simp only;omega
 ·split
  ·simp only;omega
  ·split
   ·simp only;omega
   ·split
    ·simp only;omega
    ·omega
theorem mItem_rng (w c:Int):0≤mItem w c∧mItem w c≤16:=by
 have h1:=whenM_rng (p:=SignB c) (a:=11) (by omega)
 have h2:=whenM_rng (p:=SignB c) (a:=7) (by omega)
 unfold mItem
 repeat' split
 all_goals omega
theorem mAct_rng (w c l:Int):0≤mAct w c l∧mAct w c l≤16:=by
 have h1:=whenM_rng (p:=97≤c∧c≤100) (a:=1) (by omega)
 have h2:=whenM_rng (p:=c=32) (a:=2) (by omega)
 have h3:=whenM_rng (p:=c=101∨c=115) (a:=13) (by omega)
 have h4:=whenM_rng (p:=97≤c∧c≤100) (a:=15) (by omega)
 have h5:=whenM_rng (p:=c=10∧l<16) (a:=0) (by omega)
 unfold mAct
 repeat' split
 all_goals omega
theorem stp_rng (q:Mq) (c:Int):0≤(stp q c).1∧(stp q c).1≤16∧q.d-1≤(stp q c).2∧(stp q c).2≤q.d+1:=by
 have h1:=mAtom_rng c q.d
 have h2:=mMore_rng c q.d
 have h3:=mItem_rng q.w c
 have h4:=mAct_rng q.w c q.l
 have h5:=whenM_rng (p:=EscOK c) (a:=3) (by omega)
 have h6:=whenM_rng (p:=EscOK c) (a:=7) (by omega)
 have h7:=whenM_rng (p:=EscOK c) (a:=11) (by omega)
 unfold stp
 split
 ·omega
 ·split
  ·omega
  ·split
   ·simp only;omega
   ·split
    ·simp only;omega
    ·split
     ·simp only;omega
     ·split
      ·simp only;omega
      ·simp only;omega
end Pure
def RetSyn (s:ByteArray) (w:World) (e:Ending) (w':World):Prop:=w'=w∧
 ((∃k:Nat,Pure.Halts s 0 Pure.q0 k∧e=.returned (.tuple #[.int .i64 k,.bool false]))∨
  (∃q:Pure.Mq,Pure.Goes s 0 Pure.q0 s.size q∧(q.w=13∨q.w=15)∧e=.returned (.tuple #[.int .i64 s.size,.bool true])))
theorem syntax_any (s:ByteArray) (w:World) (hs:s.size≤400):Calls Tryz.prog 27 #[.string s] w (RetSyn s w):=by
 go_enter Tryz.func27,Tryz.ntmps27
 go_wp2_with fail
 go_loopg [4,5,6,7,8,9,10] s.size (fun gk wv dv lv iv _ _ _ wx=>∃(i:Nat) (qw qd ql:Int),i≤s.size∧gk=s.size-i∧wv=.int .i64 qw∧dv=.int .i64 qd∧lv=.int .i64 ql∧iv=.int .i64 i∧wx=w∧0≤qw∧qw≤15∧-(i:Int)≤qd∧qd≤i∧1≤ql∧ql≤i+1∧Pure.Goes s 0 Pure.q0 i ⟨qw,qd,ql⟩)
 case atStart=>exact⟨0,0,0,1,Nat.zero_le _,rfl,rfl,rfl,rfl,rfl,rfl,by omega,by omega,by omega,by omega,by omega,by omega,.refl _ _⟩
 case round=>
  obtain⟨i,qw,qd,ql,il,rfl,rfl,rfl,rfl,rfl,rfl,q0,q1,d0,d1,l0,l1,hG⟩:=hrel;have HG:=hide hG;clear hG;by_cases hlt:i<s.size
  ·have dd:=dl_ (i:Int) (s.size:Int) (by omega)
   have x0:=fun w=>idx_str s (i:Int) i rfl (by omega) w
   have j0:=nz_ i;have j1:(i:Int)<(s.size:Int):=by omega
   have wi:=wr_ (i:Int) (by omega) (by omega);have wl:IntKind.i64.wrap (ql+1)=ql+1:=wrap_in _ (by omega) (by omega);have rng:=Pure.stp_rng ⟨qw,qd,ql⟩ (bt s i);have cb:=bt_bd s i
   have NX:Hid (∀(p:Int × Int),Pure.stp ⟨qw,qd,ql⟩ (bt s i)=p→(p.1=16→Pure.Halts s 0 Pure.q0 i)∧(p.1≠16→Pure.Goes s 0 Pure.q0 (i+1) ⟨p.1,p.2,if p.1=0∧qw≠0 then ql+1 else ql⟩)):=by
    intro p hp;refine⟨fun h=>⟨_,HG.out,.inr ⟨hlt,by rw [hp];exact h⟩⟩,fun h=>HG.out.trans (.step hlt (by rw [hp];exact h) ?_)⟩
    have:Pure.nxt ⟨qw,qd,ql⟩ (bt s i)=⟨p.1,p.2,if p.1=0∧qw≠0 then ql+1 else ql⟩:=by
     unfold Pure.nxt;rw [hp]
    rw [this];exact .refl _ _
   clear HG;obtain⟨c,hc⟩:∃c,c=bt s i:=⟨_,rfl⟩;rw [←hc] at x0 rng NX cb;clear hc;have WI:=hide (within_any esS14 c wr (by decide));rw [wiB_esc] at WI
   go_wp2_with fail
   refine WI.out.mono ?_
   clear WI;rintro e w1 ⟨rfl,rfl⟩;have hq:qw=0∨qw=1∨qw=2∨qw=3∨qw=4∨qw=5∨qw=6∨qw=7∨qw=8∨qw=9∨qw=10∨qw=11∨qw=12∨qw=13∨qw=14∨qw=15:=by omega
   rcases hq with rfl | rfl | rfl | rfl | rfl | rfl | rfl | rfl | rfl | rfl | rfl | rfl | rfl | rfl | rfl | rfl
   ·go_wp2_with fail
    refine (dact_any 0 c ql w1 (by decide)).mono ?_
    rintro e w2 ⟨rfl,rfl⟩;have nx:=NX.out (Pure.mAct 0 c ql,qd) rfl;have rng:0≤Pure.mAct 0 c ql∧Pure.mAct 0 c ql≤16∧qd-1≤qd∧qd≤qd+1:=rng;clear NX;generalize Pure.mAct 0 c ql=pw at *;simp only at nx;by_cases h16:pw=16
    ·have e1:(pw == 16)=true:=by simpa using h16
     have FF:=hide (nx.1 h16);clear nx h16;go_wp2
     go_ret2
     exact⟨rfl,.inl ⟨i,FF.out,rfl⟩⟩
    ·have e1:(pw == 16)=false:=by simpa using h16
     have GG:=hide (nx.2 h16);clear nx;by_cases hz:pw=0
     ·have e2:(pw == 0)=true:=by simpa using hz
      rw [if_neg (fun h=>h.2 rfl)] at GG;have hpw:pw≤15:=by omega
      clear hz h16;go_wp2;go_roundg (s.size-(i+1))
      case measure=>omega
      case rel=>exact⟨i+1,pw,qd,ql,by omega,rfl,rfl,rfl,rfl,by go_num,rfl,by omega,by omega,by omega,by omega,by omega,by omega,GG.out⟩
     ·have e2:(pw == 0)=false:=by simpa using hz
      rw [if_neg (fun h=>hz h.1)] at GG;have hpw:pw≤15:=by omega
      clear hz h16;go_wp2;go_roundg (s.size-(i+1))
      case measure=>omega
      case rel=>exact⟨i+1,pw,qd,ql,by omega,rfl,rfl,rfl,rfl,by go_num,rfl,by omega,by omega,by omega,by omega,by omega,by omega,GG.out⟩
   ·go_wp2_with fail
    refine (dact_any 1 c ql w1 (by decide)).mono ?_
    rintro e w2 ⟨rfl,rfl⟩;have nx:=NX.out (Pure.mAct 1 c ql,qd) rfl;have rng:0≤Pure.mAct 1 c ql∧Pure.mAct 1 c ql≤16∧qd-1≤qd∧qd≤qd+1:=rng;clear NX;generalize Pure.mAct 1 c ql=pw at *;simp only at nx;by_cases h16:pw=16
    ·have e1:(pw == 16)=true:=by simpa using h16
     have FF:=hide (nx.1 h16);clear nx h16;go_wp2
     go_ret2
     exact⟨rfl,.inl ⟨i,FF.out,rfl⟩⟩
    ·have e1:(pw == 16)=false:=by simpa using h16
     have GG:=hide (nx.2 h16);clear nx;by_cases hz:pw=0
     ·have e2:(pw == 0)=true:=by simpa using hz
      rw [if_pos ⟨hz,by decide⟩] at GG;have hpw:pw≤15:=by omega
      clear hz h16;go_wp2;go_roundg (s.size-(i+1))
      case measure=>omega
      case rel=>exact⟨i+1,pw,qd,ql+1,by omega,rfl,rfl,rfl,rfl,by go_num,rfl,by omega,by omega,by omega,by omega,by omega,by omega,GG.out⟩
     ·have e2:(pw == 0)=false:=by simpa using hz
      rw [if_neg (fun h=>hz h.1)] at GG;have hpw:pw≤15:=by omega
      clear hz h16;go_wp2;go_roundg (s.size-(i+1))
      case measure=>omega
      case rel=>exact⟨i+1,pw,qd,ql,by omega,rfl,rfl,rfl,rfl,by go_num,rfl,by omega,by omega,by omega,by omega,by omega,by omega,GG.out⟩
   ·go_wp2_with fail
    refine (datom_any c qd w1 (by omega)).mono ?_
    rintro e w2 ⟨rfl,rfl⟩;have nx:=NX.out (Pure.mAtom c qd) rfl;have rng:0≤(Pure.mAtom c qd).1∧(Pure.mAtom c qd).1≤16∧qd-1≤(Pure.mAtom c qd).2∧(Pure.mAtom c qd).2≤qd+1:=rng;clear NX;generalize Pure.mAtom c qd=p at *;obtain⟨pw,pd⟩:=p;simp only at rng nx;by_cases h16:pw=16
    ·have e1:(pw == 16)=true:=by simpa using h16
     have FF:=hide (nx.1 h16);clear nx h16;go_wp2
     go_ret2
     exact⟨rfl,.inl ⟨i,FF.out,rfl⟩⟩
    ·have e1:(pw == 16)=false:=by simpa using h16
     have GG:=hide (nx.2 h16);clear nx;by_cases hz:pw=0
     ·have e2:(pw == 0)=true:=by simpa using hz
      rw [if_pos ⟨hz,by decide⟩] at GG;have hpw:pw≤15:=by omega
      clear hz h16;go_wp2;go_roundg (s.size-(i+1))
      case measure=>omega
      case rel=>exact⟨i+1,pw,pd,ql+1,by omega,rfl,rfl,rfl,rfl,by go_num,rfl,by omega,by omega,by omega,by omega,by omega,by omega,GG.out⟩
     ·have e2:(pw == 0)=false:=by simpa using hz
      rw [if_neg (fun h=>hz h.1)] at GG;have hpw:pw≤15:=by omega
      clear hz h16;go_wp2;go_roundg (s.size-(i+1))
      case measure=>omega
      case rel=>exact⟨i+1,pw,pd,ql,by omega,rfl,rfl,rfl,rfl,by go_num,rfl,by omega,by omega,by omega,by omega,by omega,by omega,GG.out⟩
   ·go_wp2_with fail
    refine (dmore_any c qd w1 (by omega)).mono ?_
    rintro e w2 ⟨rfl,rfl⟩;have nx:=NX.out (Pure.mMore c qd) rfl;have rng:0≤(Pure.mMore c qd).1∧(Pure.mMore c qd).1≤16∧qd-1≤(Pure.mMore c qd).2∧(Pure.mMore c qd).2≤qd+1:=rng;clear NX;generalize Pure.mMore c qd=p at *;obtain⟨pw,pd⟩:=p;simp only at rng nx;by_cases h16:pw=16
    ·have e1:(pw == 16)=true:=by simpa using h16
     have FF:=hide (nx.1 h16);clear nx h16;go_wp2
     go_ret2
     exact⟨rfl,.inl ⟨i,FF.out,rfl⟩⟩
    ·have e1:(pw == 16)=false:=by simpa using h16
     have GG:=hide (nx.2 h16);clear nx;by_cases hz:pw=0
     ·have e2:(pw == 0)=true:=by simpa using hz
      rw [if_pos ⟨hz,by decide⟩] at GG;have hpw:pw≤15:=by omega
      clear hz h16;go_wp2;go_roundg (s.size-(i+1))
      case measure=>omega
      case rel=>exact⟨i+1,pw,pd,ql+1,by omega,rfl,rfl,rfl,rfl,by go_num,rfl,by omega,by omega,by omega,by omega,by omega,by omega,GG.out⟩
     ·have e2:(pw == 0)=false:=by simpa using hz
      rw [if_neg (fun h=>hz h.1)] at GG;have hpw:pw≤15:=by omega
      clear hz h16;go_wp2;go_roundg (s.size-(i+1))
      case measure=>omega
      case rel=>exact⟨i+1,pw,pd,ql,by omega,rfl,rfl,rfl,rfl,by go_num,rfl,by omega,by omega,by omega,by omega,by omega,by omega,GG.out⟩
   ·go_wp2_with fail
    refine (when_any (decide (Pure.EscOK c)) 3 w1).mono ?_
    rintro e w2 ⟨rfl,rfl⟩;rw [whenM_if];have nx:=NX.out (Pure.whenM (Pure.EscOK c) 3,qd) rfl;have rng:0≤Pure.whenM (Pure.EscOK c) 3∧Pure.whenM (Pure.EscOK c) 3≤16∧qd-1≤qd∧qd≤qd+1:=rng;clear NX;generalize Pure.whenM (Pure.EscOK c) 3=pw at *;simp only at nx;by_cases h16:pw=16
    ·have e1:(pw == 16)=true:=by simpa using h16
     have FF:=hide (nx.1 h16);clear nx h16;go_wp2
     go_ret2
     exact⟨rfl,.inl ⟨i,FF.out,rfl⟩⟩
    ·have e1:(pw == 16)=false:=by simpa using h16
     have GG:=hide (nx.2 h16);clear nx;by_cases hz:pw=0
     ·have e2:(pw == 0)=true:=by simpa using hz
      rw [if_pos ⟨hz,by decide⟩] at GG;have hpw:pw≤15:=by omega
      clear hz h16;go_wp2;go_roundg (s.size-(i+1))
      case measure=>omega
      case rel=>exact⟨i+1,pw,qd,ql+1,by omega,rfl,rfl,rfl,rfl,by go_num,rfl,by omega,by omega,by omega,by omega,by omega,by omega,GG.out⟩
     ·have e2:(pw == 0)=false:=by simpa using hz
      rw [if_neg (fun h=>hz h.1)] at GG;have hpw:pw≤15:=by omega
      clear hz h16;go_wp2;go_roundg (s.size-(i+1))
      case measure=>omega
      case rel=>exact⟨i+1,pw,qd,ql,by omega,rfl,rfl,rfl,rfl,by go_num,rfl,by omega,by omega,by omega,by omega,by omega,by omega,GG.out⟩
   ·go_wp2_with fail
    refine (ditem_any 5 c w1 (by decide)).mono ?_
    rintro e w2 ⟨rfl,rfl⟩;have nx:=NX.out (Pure.mItem 5 c,qd) rfl;have rng:0≤Pure.mItem 5 c∧Pure.mItem 5 c≤16∧qd-1≤qd∧qd≤qd+1:=rng;clear NX;generalize Pure.mItem 5 c=pw at *;simp only at nx;by_cases h16:pw=16
    ·have e1:(pw == 16)=true:=by simpa using h16
     have FF:=hide (nx.1 h16);clear nx h16;go_wp2
     go_ret2
     exact⟨rfl,.inl ⟨i,FF.out,rfl⟩⟩
    ·have e1:(pw == 16)=false:=by simpa using h16
     have GG:=hide (nx.2 h16);clear nx;by_cases hz:pw=0
     ·have e2:(pw == 0)=true:=by simpa using hz
      rw [if_pos ⟨hz,by decide⟩] at GG;have hpw:pw≤15:=by omega
      clear hz h16;go_wp2;go_roundg (s.size-(i+1))
      case measure=>omega
      case rel=>exact⟨i+1,pw,qd,ql+1,by omega,rfl,rfl,rfl,rfl,by go_num,rfl,by omega,by omega,by omega,by omega,by omega,by omega,GG.out⟩
     ·have e2:(pw == 0)=false:=by simpa using hz
      rw [if_neg (fun h=>hz h.1)] at GG;have hpw:pw≤15:=by omega
      clear hz h16;go_wp2;go_roundg (s.size-(i+1))
      case measure=>omega
      case rel=>exact⟨i+1,pw,qd,ql,by omega,rfl,rfl,rfl,rfl,by go_num,rfl,by omega,by omega,by omega,by omega,by omega,by omega,GG.out⟩
   ·go_wp2_with fail
    refine (ditem_any 6 c w1 (by decide)).mono ?_
    rintro e w2 ⟨rfl,rfl⟩;have nx:=NX.out (Pure.mItem 6 c,qd) rfl;have rng:0≤Pure.mItem 6 c∧Pure.mItem 6 c≤16∧qd-1≤qd∧qd≤qd+1:=rng;clear NX;generalize Pure.mItem 6 c=pw at *;simp only at nx;by_cases h16:pw=16
    ·have e1:(pw == 16)=true:=by simpa using h16
     have FF:=hide (nx.1 h16);clear nx h16;go_wp2
     go_ret2
     exact⟨rfl,.inl ⟨i,FF.out,rfl⟩⟩
    ·have e1:(pw == 16)=false:=by simpa using h16
     have GG:=hide (nx.2 h16);clear nx;by_cases hz:pw=0
     ·have e2:(pw == 0)=true:=by simpa using hz
      rw [if_pos ⟨hz,by decide⟩] at GG;have hpw:pw≤15:=by omega
      clear hz h16;go_wp2;go_roundg (s.size-(i+1))
      case measure=>omega
      case rel=>exact⟨i+1,pw,qd,ql+1,by omega,rfl,rfl,rfl,rfl,by go_num,rfl,by omega,by omega,by omega,by omega,by omega,by omega,GG.out⟩
     ·have e2:(pw == 0)=false:=by simpa using hz
      rw [if_neg (fun h=>hz h.1)] at GG;have hpw:pw≤15:=by omega
      clear hz h16;go_wp2;go_roundg (s.size-(i+1))
      case measure=>omega
      case rel=>exact⟨i+1,pw,qd,ql,by omega,rfl,rfl,rfl,rfl,by go_num,rfl,by omega,by omega,by omega,by omega,by omega,by omega,GG.out⟩
   ·go_wp2_with fail
    refine (ditem_any 7 c w1 (by decide)).mono ?_
    rintro e w2 ⟨rfl,rfl⟩;have nx:=NX.out (Pure.mItem 7 c,qd) rfl;have rng:0≤Pure.mItem 7 c∧Pure.mItem 7 c≤16∧qd-1≤qd∧qd≤qd+1:=rng;clear NX;generalize Pure.mItem 7 c=pw at *;simp only at nx;by_cases h16:pw=16
    ·have e1:(pw == 16)=true:=by simpa using h16
     have FF:=hide (nx.1 h16);clear nx h16;go_wp2
     go_ret2
     exact⟨rfl,.inl ⟨i,FF.out,rfl⟩⟩
    ·have e1:(pw == 16)=false:=by simpa using h16
     have GG:=hide (nx.2 h16);clear nx;by_cases hz:pw=0
     ·have e2:(pw == 0)=true:=by simpa using hz
      rw [if_pos ⟨hz,by decide⟩] at GG;have hpw:pw≤15:=by omega
      clear hz h16;go_wp2;go_roundg (s.size-(i+1))
      case measure=>omega
      case rel=>exact⟨i+1,pw,qd,ql+1,by omega,rfl,rfl,rfl,rfl,by go_num,rfl,by omega,by omega,by omega,by omega,by omega,by omega,GG.out⟩
     ·have e2:(pw == 0)=false:=by simpa using hz
      rw [if_neg (fun h=>hz h.1)] at GG;have hpw:pw≤15:=by omega
      clear hz h16;go_wp2;go_roundg (s.size-(i+1))
      case measure=>omega
      case rel=>exact⟨i+1,pw,qd,ql,by omega,rfl,rfl,rfl,rfl,by go_num,rfl,by omega,by omega,by omega,by omega,by omega,by omega,GG.out⟩
   ·go_wp2_with fail
    refine (when_any (decide (Pure.EscOK c)) 7 w1).mono ?_
    rintro e w2 ⟨rfl,rfl⟩;rw [whenM_if];have nx:=NX.out (Pure.whenM (Pure.EscOK c) 7,qd) rfl;have rng:0≤Pure.whenM (Pure.EscOK c) 7∧Pure.whenM (Pure.EscOK c) 7≤16∧qd-1≤qd∧qd≤qd+1:=rng;clear NX;generalize Pure.whenM (Pure.EscOK c) 7=pw at *;simp only at nx;by_cases h16:pw=16
    ·have e1:(pw == 16)=true:=by simpa using h16
     have FF:=hide (nx.1 h16);clear nx h16;go_wp2
     go_ret2
     exact⟨rfl,.inl ⟨i,FF.out,rfl⟩⟩
    ·have e1:(pw == 16)=false:=by simpa using h16
     have GG:=hide (nx.2 h16);clear nx;by_cases hz:pw=0
     ·have e2:(pw == 0)=true:=by simpa using hz
      rw [if_pos ⟨hz,by decide⟩] at GG;have hpw:pw≤15:=by omega
      clear hz h16;go_wp2;go_roundg (s.size-(i+1))
      case measure=>omega
      case rel=>exact⟨i+1,pw,qd,ql+1,by omega,rfl,rfl,rfl,rfl,by go_num,rfl,by omega,by omega,by omega,by omega,by omega,by omega,GG.out⟩
     ·have e2:(pw == 0)=false:=by simpa using hz
      rw [if_neg (fun h=>hz h.1)] at GG;have hpw:pw≤15:=by omega
      clear hz h16;go_wp2;go_roundg (s.size-(i+1))
      case measure=>omega
      case rel=>exact⟨i+1,pw,qd,ql,by omega,rfl,rfl,rfl,rfl,by go_num,rfl,by omega,by omega,by omega,by omega,by omega,by omega,GG.out⟩
   ·go_wp2_with fail
    refine (ditem_any 9 c w1 (by decide)).mono ?_
    rintro e w2 ⟨rfl,rfl⟩;have nx:=NX.out (Pure.mItem 9 c,qd) rfl;have rng:0≤Pure.mItem 9 c∧Pure.mItem 9 c≤16∧qd-1≤qd∧qd≤qd+1:=rng;clear NX;generalize Pure.mItem 9 c=pw at *;simp only at nx;by_cases h16:pw=16
    ·have e1:(pw == 16)=true:=by simpa using h16
     have FF:=hide (nx.1 h16);clear nx h16;go_wp2
     go_ret2
     exact⟨rfl,.inl ⟨i,FF.out,rfl⟩⟩
    ·have e1:(pw == 16)=false:=by simpa using h16
     have GG:=hide (nx.2 h16);clear nx;by_cases hz:pw=0
     ·have e2:(pw == 0)=true:=by simpa using hz
      rw [if_pos ⟨hz,by decide⟩] at GG;have hpw:pw≤15:=by omega
      clear hz h16;go_wp2;go_roundg (s.size-(i+1))
      case measure=>omega
      case rel=>exact⟨i+1,pw,qd,ql+1,by omega,rfl,rfl,rfl,rfl,by go_num,rfl,by omega,by omega,by omega,by omega,by omega,by omega,GG.out⟩
     ·have e2:(pw == 0)=false:=by simpa using hz
      rw [if_neg (fun h=>hz h.1)] at GG;have hpw:pw≤15:=by omega
      clear hz h16;go_wp2;go_roundg (s.size-(i+1))
      case measure=>omega
      case rel=>exact⟨i+1,pw,qd,ql,by omega,rfl,rfl,rfl,rfl,by go_num,rfl,by omega,by omega,by omega,by omega,by omega,by omega,GG.out⟩
   ·go_wp2_with fail
    refine (when_any (decide (Pure.EscOK c)) 11 w1).mono ?_
    rintro e w2 ⟨rfl,rfl⟩;rw [whenM_if];have nx:=NX.out (Pure.whenM (Pure.EscOK c) 11,qd) rfl;have rng:0≤Pure.whenM (Pure.EscOK c) 11∧Pure.whenM (Pure.EscOK c) 11≤16∧qd-1≤qd∧qd≤qd+1:=rng;clear NX;generalize Pure.whenM (Pure.EscOK c) 11=pw at *;simp only at nx;by_cases h16:pw=16
    ·have e1:(pw == 16)=true:=by simpa using h16
     have FF:=hide (nx.1 h16);clear nx h16;go_wp2
     go_ret2
     exact⟨rfl,.inl ⟨i,FF.out,rfl⟩⟩
    ·have e1:(pw == 16)=false:=by simpa using h16
     have GG:=hide (nx.2 h16);clear nx;by_cases hz:pw=0
     ·have e2:(pw == 0)=true:=by simpa using hz
      rw [if_pos ⟨hz,by decide⟩] at GG;have hpw:pw≤15:=by omega
      clear hz h16;go_wp2;go_roundg (s.size-(i+1))
      case measure=>omega
      case rel=>exact⟨i+1,pw,qd,ql+1,by omega,rfl,rfl,rfl,rfl,by go_num,rfl,by omega,by omega,by omega,by omega,by omega,by omega,GG.out⟩
     ·have e2:(pw == 0)=false:=by simpa using hz
      rw [if_neg (fun h=>hz h.1)] at GG;have hpw:pw≤15:=by omega
      clear hz h16;go_wp2;go_roundg (s.size-(i+1))
      case measure=>omega
      case rel=>exact⟨i+1,pw,qd,ql,by omega,rfl,rfl,rfl,rfl,by go_num,rfl,by omega,by omega,by omega,by omega,by omega,by omega,GG.out⟩
   ·go_wp2_with fail
    refine (ditem_any 11 c w1 (by decide)).mono ?_
    rintro e w2 ⟨rfl,rfl⟩;have nx:=NX.out (Pure.mItem 11 c,qd) rfl;have rng:0≤Pure.mItem 11 c∧Pure.mItem 11 c≤16∧qd-1≤qd∧qd≤qd+1:=rng;clear NX;generalize Pure.mItem 11 c=pw at *;simp only at nx;by_cases h16:pw=16
    ·have e1:(pw == 16)=true:=by simpa using h16
     have FF:=hide (nx.1 h16);clear nx h16;go_wp2
     go_ret2
     exact⟨rfl,.inl ⟨i,FF.out,rfl⟩⟩
    ·have e1:(pw == 16)=false:=by simpa using h16
     have GG:=hide (nx.2 h16);clear nx;by_cases hz:pw=0
     ·have e2:(pw == 0)=true:=by simpa using hz
      rw [if_pos ⟨hz,by decide⟩] at GG;have hpw:pw≤15:=by omega
      clear hz h16;go_wp2;go_roundg (s.size-(i+1))
      case measure=>omega
      case rel=>exact⟨i+1,pw,qd,ql+1,by omega,rfl,rfl,rfl,rfl,by go_num,rfl,by omega,by omega,by omega,by omega,by omega,by omega,GG.out⟩
     ·have e2:(pw == 0)=false:=by simpa using hz
      rw [if_neg (fun h=>hz h.1)] at GG;have hpw:pw≤15:=by omega
      clear hz h16;go_wp2;go_roundg (s.size-(i+1))
      case measure=>omega
      case rel=>exact⟨i+1,pw,qd,ql,by omega,rfl,rfl,rfl,rfl,by go_num,rfl,by omega,by omega,by omega,by omega,by omega,by omega,GG.out⟩
   ·go_wp2_with fail
    refine (dact_any 12 c ql w1 (by decide)).mono ?_
    rintro e w2 ⟨rfl,rfl⟩;have nx:=NX.out (Pure.mAct 12 c ql,qd) rfl;have rng:0≤Pure.mAct 12 c ql∧Pure.mAct 12 c ql≤16∧qd-1≤qd∧qd≤qd+1:=rng;clear NX;generalize Pure.mAct 12 c ql=pw at *;simp only at nx;by_cases h16:pw=16
    ·have e1:(pw == 16)=true:=by simpa using h16
     have FF:=hide (nx.1 h16);clear nx h16;go_wp2
     go_ret2
     exact⟨rfl,.inl ⟨i,FF.out,rfl⟩⟩
    ·have e1:(pw == 16)=false:=by simpa using h16
     have GG:=hide (nx.2 h16);clear nx;by_cases hz:pw=0
     ·have e2:(pw == 0)=true:=by simpa using hz
      rw [if_pos ⟨hz,by decide⟩] at GG;have hpw:pw≤15:=by omega
      clear hz h16;go_wp2;go_roundg (s.size-(i+1))
      case measure=>omega
      case rel=>exact⟨i+1,pw,qd,ql+1,by omega,rfl,rfl,rfl,rfl,by go_num,rfl,by omega,by omega,by omega,by omega,by omega,by omega,GG.out⟩
     ·have e2:(pw == 0)=false:=by simpa using hz
      rw [if_neg (fun h=>hz h.1)] at GG;have hpw:pw≤15:=by omega
      clear hz h16;go_wp2;go_roundg (s.size-(i+1))
      case measure=>omega
      case rel=>exact⟨i+1,pw,qd,ql,by omega,rfl,rfl,rfl,rfl,by go_num,rfl,by omega,by omega,by omega,by omega,by omega,by omega,GG.out⟩
   ·go_wp2_with fail
    refine (dact_any 13 c ql w1 (by decide)).mono ?_
    rintro e w2 ⟨rfl,rfl⟩;have nx:=NX.out (Pure.mAct 13 c ql,qd) rfl;have rng:0≤Pure.mAct 13 c ql∧Pure.mAct 13 c ql≤16∧qd-1≤qd∧qd≤qd+1:=rng;clear NX;generalize Pure.mAct 13 c ql=pw at *;simp only at nx;by_cases h16:pw=16
    ·have e1:(pw == 16)=true:=by simpa using h16
     have FF:=hide (nx.1 h16);clear nx h16;go_wp2
     go_ret2
     exact⟨rfl,.inl ⟨i,FF.out,rfl⟩⟩
    ·have e1:(pw == 16)=false:=by simpa using h16
     have GG:=hide (nx.2 h16);clear nx;by_cases hz:pw=0
     ·have e2:(pw == 0)=true:=by simpa using hz
      rw [if_pos ⟨hz,by decide⟩] at GG;have hpw:pw≤15:=by omega
      clear hz h16;go_wp2;go_roundg (s.size-(i+1))
      case measure=>omega
      case rel=>exact⟨i+1,pw,qd,ql+1,by omega,rfl,rfl,rfl,rfl,by go_num,rfl,by omega,by omega,by omega,by omega,by omega,by omega,GG.out⟩
     ·have e2:(pw == 0)=false:=by simpa using hz
      rw [if_neg (fun h=>hz h.1)] at GG;have hpw:pw≤15:=by omega
      clear hz h16;go_wp2;go_roundg (s.size-(i+1))
      case measure=>omega
      case rel=>exact⟨i+1,pw,qd,ql,by omega,rfl,rfl,rfl,rfl,by go_num,rfl,by omega,by omega,by omega,by omega,by omega,by omega,GG.out⟩
   ·go_wp2_with fail
    refine (dact_any 14 c ql w1 (by decide)).mono ?_
    rintro e w2 ⟨rfl,rfl⟩;have nx:=NX.out (Pure.mAct 14 c ql,qd) rfl;have rng:0≤Pure.mAct 14 c ql∧Pure.mAct 14 c ql≤16∧qd-1≤qd∧qd≤qd+1:=rng;clear NX;generalize Pure.mAct 14 c ql=pw at *;simp only at nx;by_cases h16:pw=16
    ·have e1:(pw == 16)=true:=by simpa using h16
     have FF:=hide (nx.1 h16);clear nx h16;go_wp2
     go_ret2
     exact⟨rfl,.inl ⟨i,FF.out,rfl⟩⟩
    ·have e1:(pw == 16)=false:=by simpa using h16
     have GG:=hide (nx.2 h16);clear nx;by_cases hz:pw=0
     ·have e2:(pw == 0)=true:=by simpa using hz
      rw [if_pos ⟨hz,by decide⟩] at GG;have hpw:pw≤15:=by omega
      clear hz h16;go_wp2;go_roundg (s.size-(i+1))
      case measure=>omega
      case rel=>exact⟨i+1,pw,qd,ql+1,by omega,rfl,rfl,rfl,rfl,by go_num,rfl,by omega,by omega,by omega,by omega,by omega,by omega,GG.out⟩
     ·have e2:(pw == 0)=false:=by simpa using hz
      rw [if_neg (fun h=>hz h.1)] at GG;have hpw:pw≤15:=by omega
      clear hz h16;go_wp2;go_roundg (s.size-(i+1))
      case measure=>omega
      case rel=>exact⟨i+1,pw,qd,ql,by omega,rfl,rfl,rfl,rfl,by go_num,rfl,by omega,by omega,by omega,by omega,by omega,by omega,GG.out⟩
   ·go_wp2_with fail
    refine (dact_any 15 c ql w1 (by decide)).mono ?_
    rintro e w2 ⟨rfl,rfl⟩;have nx:=NX.out (Pure.mAct 15 c ql,qd) rfl;have rng:0≤Pure.mAct 15 c ql∧Pure.mAct 15 c ql≤16∧qd-1≤qd∧qd≤qd+1:=rng;clear NX;generalize Pure.mAct 15 c ql=pw at *;simp only at nx;by_cases h16:pw=16
    ·have e1:(pw == 16)=true:=by simpa using h16
     have FF:=hide (nx.1 h16);clear nx h16;go_wp2
     go_ret2
     exact⟨rfl,.inl ⟨i,FF.out,rfl⟩⟩
    ·have e1:(pw == 16)=false:=by simpa using h16
     have GG:=hide (nx.2 h16);clear nx;by_cases hz:pw=0
     ·have e2:(pw == 0)=true:=by simpa using hz
      rw [if_pos ⟨hz,by decide⟩] at GG;have hpw:pw≤15:=by omega
      clear hz h16;go_wp2;go_roundg (s.size-(i+1))
      case measure=>omega
      case rel=>exact⟨i+1,pw,qd,ql+1,by omega,rfl,rfl,rfl,rfl,by go_num,rfl,by omega,by omega,by omega,by omega,by omega,by omega,GG.out⟩
     ·have e2:(pw == 0)=false:=by simpa using hz
      rw [if_neg (fun h=>hz h.1)] at GG;have hpw:pw≤15:=by omega
      clear hz h16;go_wp2;go_roundg (s.size-(i+1))
      case measure=>omega
      case rel=>exact⟨i+1,pw,qd,ql,by omega,rfl,rfl,rfl,rfl,by go_num,rfl,by omega,by omega,by omega,by omega,by omega,by omega,GG.out⟩
  ·have dd:=df_ (i:Int) (s.size:Int) (by omega)
   have ei:i=s.size:=by omega
   by_cases h13:qw=13
   ·have e1:(qw == 13)=true:=by simpa using h13
    have FF:Hid (∃q:Pure.Mq,Pure.Goes s 0 Pure.q0 s.size q∧(q.w=13∨q.w=15)):=⟨_,by rw [←ei];exact HG.out,.inl h13⟩;clear HG h13 ei;go_wp2
    go_ret2
    obtain⟨q,g1,g2⟩:=FF.out;exact⟨rfl,.inr ⟨q,g1,g2,rfl⟩⟩
   ·have e1:(qw == 13)=false:=by simpa using h13
    by_cases h15:qw=15
    ·have e2:(qw == 15)=true:=by simpa using h15
     have FF:Hid (∃q:Pure.Mq,Pure.Goes s 0 Pure.q0 s.size q∧(q.w=13∨q.w=15)):=⟨_,by rw [←ei];exact HG.out,.inr h15⟩;clear HG h13 h15 ei;go_wp2
     go_ret2
     obtain⟨q,g1,g2⟩:=FF.out;exact⟨rfl,.inr ⟨q,g1,g2,rfl⟩⟩
    ·have e2:(qw == 15)=false:=by simpa using h15
     have FF:Hid (Pure.Halts s 0 Pure.q0 s.size):=⟨_,by rw [←ei];exact HG.out,.inl ⟨rfl,h13,h15⟩⟩;clear HG h13 h15 ei;go_wp2
     go_ret2
     exact⟨rfl,.inl ⟨_,FF.out,rfl⟩⟩
end Go.Proofs.YtmccnmgaoppogaaGreat
