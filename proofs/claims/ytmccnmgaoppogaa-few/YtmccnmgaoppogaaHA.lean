/-
 The walks: the document's small questions about bytes. (weirref)
 The walks: what may come next in a text. (weirref)
-/
import Derived.Test.YtmccnmgaoppogaaEE
namespace Go.Proofs.Ytmccnmgaoppogaa
set_option maxRecDepth 100000
set_option maxHeartbeats 8000000
open Go.RowKit
def Ret0 (v:Value) (w:World) (e:Ending) (w':World):Prop:=w'=w∧e=.returned v
def wiB (l:ByteArray) (c:Int):Bool:=(List.range l.size).any (fun i=>decide (bt l i=c))
theorem wiB_true {l:ByteArray} {c:Int} {k:Nat} (hk:k<l.size) (h:bt l k=c):wiB l c=true:=by
 unfold wiB
 rw [List.any_eq_true]
 exact⟨k,List.mem_range.2 hk,decide_eq_true h⟩
theorem wiB_false {l:ByteArray} {c:Int} (h:∀k,k<l.size→bt l k≠c):wiB l c=false:=by
 unfold wiB
 rw [List.any_eq_false]
 intro k hk
 simpa using h k (List.mem_range.1 hk)
theorem within_any (l:ByteArray) (c:Int) (w:World) (hl:l.size≤100) :
  Calls Try.prog 94 #[.string l,.int .u8 c] w (Ret0 (.bool (wiB l c)) w):=by
 go_enter Try.func94,Try.ntmps94
 go_wp2_with fail
 go_loopg [5] l.size (fun gk kv wx=>∃k:Nat,k≤l.size∧gk=l.size-k∧kv=.int .i64 k∧wx=w∧∀j,j<k→bt l j≠c)
 case atStart=>exact⟨0,Nat.zero_le _,rfl,rfl,rfl,fun j hj=>by omega⟩
 case round=>
  obtain⟨k,kl,rfl,rfl,rfl,hno⟩:=hrel;have HN:=hide hno;clear hno;by_cases hlt:k<l.size
  ·have d1:=dl_ (k:Int) (l.size:Int) (by omega)
   have x0:=fun w=>idx_str l (k:Int) k rfl (by omega) w
   have j0:=nz_ k;have j1:(k:Int)<(l.size:Int):=by omega
   have wi:=wr_ (k:Int) (by omega) (by omega);by_cases he:bt l k=c
   ·have R:Hid (wiB l c=true):=wiB_true hlt he
    rw [he] at x0;have e1:(c == c)=true:=by simp
    clear he;go_wp2;go_ret;exact⟨rfl,by rw [R.out];rfl⟩
   ·have N2:Hid (∀j,j<k+1→bt l j≠c):=fun j hj=>by
     by_cases e:j=k
     ·subst e;exact he
     ·exact HN.out j (by omega)
    have e1:(bt l k == c)=false:=by simpa using he
    generalize bt l k=b at *;clear he HN;go_wp2;go_roundg (l.size-(k+1))
    case measure=>omega
    case rel=>exact⟨k+1,by omega,rfl,by go_num,rfl,N2.out⟩
  ·have d1:=df_ (k:Int) (l.size:Int) (by omega)
   have R:Hid (wiB l c=false):=wiB_false (fun j hj=>HN.out j (by omega));clear HN;go_wp2;go_ret;exact⟨rfl,by rw [R.out];rfl⟩
def plS12:ByteArray:={ data:=#[40,41,91,93,42,43,63,124,46,92,32,10] }
def sgS5:ByteArray:={ data:=#[93,92,45,32,10] }
def esS14:ByteArray:={ data:=#[40,41,91,93,42,43,63,124,46,92,45,94,110,115] }
theorem wiB_plain (c:Int):wiB plS12 c=!decide (Pu.Plain c):=by
 have:wiB plS12 c=[40,41,91,93,42,43,63,124,46,92,32,10].any (fun b:Int=>decide (b=c)):=rfl
 rw [this,Bool.eq_iff_iff]
 simp [Pu.Plain]
 omega
theorem wiB_sign (c:Int):wiB sgS5 c=!decide (Pu.SignB c):=by
 have:wiB sgS5 c=[93,92,45,32,10].any (fun b:Int=>decide (b=c)):=rfl
 rw [this,Bool.eq_iff_iff]
 simp [Pu.SignB]
 omega
theorem wiB_esc (c:Int):wiB esS14 c=decide (Pu.EscOK c):=by
 have:wiB esS14 c=[40,41,91,93,42,43,63,124,46,92,45,94,110,115].any (fun b:Int=>decide (b=c)):=rfl
 rw [this,Bool.eq_iff_iff,decide_eq_true_eq]
 unfold Pu.EscOK
 simp only [List.any_cons,List.any_nil,Bool.or_eq_true,decide_eq_true_eq,Bool.false_eq_true,or_false]
 omega
theorem plain_any (c:Int) (w:World):Calls Try.prog 135 #[.int .u8 c] w (Ret0 (.bool (decide (Pu.Plain c))) w):=by
 have W:=hide (within_any plS12 c w (by decide))
 rw [wiB_plain] at W
 generalize decide (Pu.Plain c)=b at *
 go_enter Try.func135,Try.ntmps135
 go_wp2_with fail
 refine W.out.mono ?_
 rintro e w1 ⟨rfl,rfl⟩
 go_wp2
 go_ret
 exact⟨rfl,by simp⟩
theorem dsign_any (c:Int) (w:World):Calls Try.prog 136 #[.int .u8 c] w (Ret0 (.bool (decide (Pu.SignB c))) w):=by
 have W:=hide (within_any sgS5 c w (by decide))
 rw [wiB_sign] at W
 generalize decide (Pu.SignB c)=b at *
 go_enter Try.func136,Try.ntmps136
 go_wp2_with fail
 refine W.out.mono ?_
 rintro e w1 ⟨rfl,rfl⟩
 go_wp2
 go_ret
 exact⟨rfl,by simp⟩
theorem when_any (b:Bool) (a:Int) (w:World):Calls Try.prog 97 #[.bool b,.int .i64 a] w (Ret0 (.int .i64 (if b=true then a else 16)) w):=by
 cases b with
 | true=>
  go_enter Try.func97,Try.ntmps97;go_wp2;go_ret;exact⟨rfl,rfl⟩
 | false=>
  go_enter Try.func97,Try.ntmps97;go_wp2;go_ret;exact⟨rfl,rfl⟩
theorem whenM_if (p:Prop) [Decidable p] (a:Int):(if decide p=true then a else 16)=Pu.whenM p a:=by
 unfold Pu.whenM
 by_cases h:p <;> simp [h]
theorem datom_any (c d:Int) (w:World) (hd:-1000≤d∧d≤1000):Calls Try.prog 95 #[.int .u8 c,.int .i64 d] w (Ret0 (.tuple #[.int .i64 (Pu.mAtom c d).1,.int .i64 (Pu.mAtom c d).2]) w):=by
 have wi:IntKind.i64.wrap (d+1)=d+1:=wrap_in _ (by omega) (by omega)
 by_cases h1:c=40
 ·subst h1
  go_enter Try.func95,Try.ntmps95;go_wp2
  go_ret2
  exact⟨rfl,rfl⟩
 by_cases h2:c=91
 ·subst h2
  go_enter Try.func95,Try.ntmps95;go_wp2
  go_ret2
  exact⟨rfl,rfl⟩
 by_cases h3:c=92
 ·subst h3
  go_enter Try.func95,Try.ntmps95;go_wp2
  go_ret2
  exact⟨rfl,rfl⟩
 by_cases h4:c=46
 ·subst h4
  go_enter Try.func95,Try.ntmps95;go_wp2
  go_ret2
  exact⟨rfl,rfl⟩
 have e1:(c == 40)=false:=by simpa using h1
 have e2:(c == 91)=false:=by simpa using h2
 have e3:(c == 92)=false:=by simpa using h3
 have e4:(c == 46)=false:=by simpa using h4
 have R:Hid (Pu.mAtom c d=(Pu.whenM (Pu.Plain c) 3,d)):=by
  show _=_;unfold Pu.mAtom;rw [if_neg h1,if_neg h2,if_neg h3,if_neg h4]
 clear h1 h2 h3 h4
 go_enter Try.func95,Try.ntmps95
 go_wp2_with fail
 refine (plain_any c w).mono ?_
 rintro e w1 ⟨rfl,rfl⟩
 go_wp2_with fail
 refine (when_any _ 3 w1).mono ?_
 rintro e w2 ⟨rfl,rfl⟩
 rw [whenM_if]
 generalize Pu.whenM (Pu.Plain c) 3=r at *
 go_wp2
 go_ret2
 exact⟨rfl,by rw [R.out];rfl⟩
theorem dmore_any (c d:Int) (w:World) (hd:-1000≤d∧d≤1000):Calls Try.prog 96 #[.int .u8 c,.int .i64 d] w (Ret0 (.tuple #[.int .i64 (Pu.mMore c d).1,.int .i64 (Pu.mMore c d).2]) w):=by
 have wi:IntKind.i64.wrap (d-1)=d-1:=wrap_in _ (by omega) (by omega)
 by_cases h1:c=42∨c=43∨c=63
 ·rcases h1 with rfl | rfl | rfl
  all_goals
   go_enter Try.func96,Try.ntmps96;go_wp2
   go_ret2
   exact⟨rfl,rfl⟩
 by_cases h2:c=124
 ·subst h2
  go_enter Try.func96,Try.ntmps96;go_wp2
  go_ret2
  exact⟨rfl,rfl⟩
 by_cases h3:c=41
 ·subst h3
  go_enter Try.func96,Try.ntmps96
  go_wp2_with fail
  refine (when_any _ 3 w).mono ?_
  rintro e w2 ⟨rfl,rfl⟩;generalize hr:(if decide (0<d)=true then (3:Int) else 16)=r;rw [whenM_if] at hr;have HR:=hide hr;clear hr;go_wp2
  go_ret2
  refine⟨rfl,?_⟩;show Ending.returned (.tuple #[.int .i64 r,.int .i64 (d-1)])=Ending.returned (.tuple #[.int .i64 (Pu.whenM (0<d) 3),.int .i64 (d-1)]);rw [HR.out]
 by_cases h4:c=32
 ·subst h4
  go_enter Try.func96,Try.ntmps96
  go_wp2_with fail
  refine (when_any (decide (d=0)) 12 w).mono ?_
  rintro e w2 ⟨rfl,rfl⟩;generalize hr:(if decide (d=0)=true then (12:Int) else 16)=r;rw [whenM_if] at hr;have HR:=hide hr;clear hr;go_wp2
  go_ret2
  refine⟨rfl,?_⟩;show Ending.returned (.tuple #[.int .i64 r,.int .i64 d])=Ending.returned (.tuple #[.int .i64 (Pu.whenM (d=0) 12),.int .i64 d]);rw [HR.out]
 have e1:(c == 42)=false:=by simp;omega
 have e2:(c == 43)=false:=by simp;omega
 have e3:(c == 63)=false:=by simp;omega
 have e4:(c == 124)=false:=by simpa using h2
 have e5:(c == 41)=false:=by simpa using h3
 have e6:(c == 32)=false:=by simpa using h4
 have R:Hid (Pu.mMore c d=Pu.mAtom c d):=by
  show _=_;unfold Pu.mMore;rw [if_neg h1,if_neg h2,if_neg h3,if_neg h4]
 clear h1 h2 h3 h4
 go_enter Try.func96,Try.ntmps96
 go_wp2_with fail
 refine (datom_any c d w hd).mono ?_
 rintro e w1 ⟨rfl,rfl⟩
 go_wp2
 go_ret2
 exact⟨rfl,by rw [R.out];rfl⟩
theorem ditem_any (q c:Int) (w:World) (hq:q=5∨q=6∨q=7∨q=9∨q=11):Calls Try.prog 98 #[.int .i64 q,.int .u8 c] w (Ret0 (.int .i64 (Pu.mItem q c)) w):=by
 have SG:=hide (dsign_any c w)
 by_cases h1:c=94
 ·subst h1
  rw [show decide (Pu.SignB 94)=true from rfl] at SG;rcases hq with rfl | rfl | rfl | rfl | rfl
  all_goals
   go_enter Try.func98,Try.ntmps98
   go_wp2_with fail
   refine SG.out.mono ?_
   rintro e w1 ⟨rfl,rfl⟩
   go_wp2_with (first | (refine (when_any true _ w1).mono ?_;rintro e w2 ⟨rfl,rfl⟩))
   go_ret;exact⟨rfl,rfl⟩
 by_cases h92:c=92
 ·subst h92
  rw [show decide (Pu.SignB 92)=false from rfl] at SG;rcases hq with rfl | rfl | rfl | rfl | rfl
  all_goals
   go_enter Try.func98,Try.ntmps98
   go_wp2_with fail
   refine SG.out.mono ?_
   rintro e w1 ⟨rfl,rfl⟩
   go_wp2_with (first | (refine (when_any false _ w1).mono ?_;rintro e w2 ⟨rfl,rfl⟩))
   go_ret;exact⟨rfl,rfl⟩
 by_cases h93:c=93
 ·subst h93
  rw [show decide (Pu.SignB 93)=false from rfl] at SG;rcases hq with rfl | rfl | rfl | rfl | rfl
  all_goals
   go_enter Try.func98,Try.ntmps98
   go_wp2_with fail
   refine SG.out.mono ?_
   rintro e w1 ⟨rfl,rfl⟩
   go_wp2_with (first | (refine (when_any false _ w1).mono ?_;rintro e w2 ⟨rfl,rfl⟩))
   go_ret;exact⟨rfl,rfl⟩
 by_cases h45:c=45
 ·subst h45
  rw [show decide (Pu.SignB 45)=false from rfl] at SG;rcases hq with rfl | rfl | rfl | rfl | rfl
  all_goals
   go_enter Try.func98,Try.ntmps98
   go_wp2_with fail
   refine SG.out.mono ?_
   rintro e w1 ⟨rfl,rfl⟩
   go_wp2_with (first | (refine (when_any false _ w1).mono ?_;rintro e w2 ⟨rfl,rfl⟩))
   go_ret;exact⟨rfl,rfl⟩
 have e1:(c == 94)=false:=by simpa using h1
 have e2:(c == 92)=false:=by simpa using h92
 have e3:(c == 93)=false:=by simpa using h93
 have e4:(c == 45)=false:=by simpa using h45
 have W7:=hide (fun w1=>when_any (decide (Pu.SignB c)) 7 w1)
 have W11:=hide (fun w1=>when_any (decide (Pu.SignB c)) 11 w1)
 rw [whenM_if] at W7 W11
 by_cases hq9:q=9
 ·subst hq9
  have R:Hid (Pu.mItem 9 c=Pu.whenM (Pu.SignB c) 11):=by
   show _=_;unfold Pu.mItem;rw [if_neg (by omega),if_neg (by omega),if_pos rfl]
  rw [R.out];generalize Pu.whenM (Pu.SignB c) 11=r at *;generalize decide (Pu.SignB c)=sb at *;clear hq R W7 h1 h92 h93 h45;go_enter Try.func98,Try.ntmps98
  go_wp2_with fail
  refine SG.out.mono ?_
  rintro e w1 ⟨rfl,rfl⟩
  go_wp2_with fail
  refine (W11.out w1).mono ?_
  rintro e w2 ⟨rfl,rfl⟩;go_wp2;go_ret;exact⟨rfl,rfl⟩
 ·have R:Hid (Pu.mItem q c=Pu.whenM (Pu.SignB c) 7):=by
   show _=_;unfold Pu.mItem;rw [if_neg (by omega),if_neg (by omega),if_neg (by omega),if_neg (by omega),if_neg (by omega),if_neg (by omega)]
  rw [R.out];generalize Pu.whenM (Pu.SignB c) 7=r at *;generalize decide (Pu.SignB c)=sb at *;clear R W11 h1 h92 h93 h45;rcases hq with rfl | rfl | rfl | rfl | rfl
  case inr.inr.inr.inl=>exact absurd rfl hq9
  all_goals
   clear hq9;go_enter Try.func98,Try.ntmps98
   go_wp2_with fail
   refine SG.out.mono ?_
   rintro e w1 ⟨rfl,rfl⟩
   go_wp2_with fail
   refine (W7.out w1).mono ?_
   rintro e w2 ⟨rfl,rfl⟩;go_wp2;go_ret;exact⟨rfl,rfl⟩
theorem dact_any (q c l:Int) (w:World) (hq:q=0∨q=1∨q=12∨q=13∨q=14∨q=15):Calls Try.prog 99 #[.int .i64 q,.int .u8 c,.int .i64 l] w (Ret0 (.int .i64 (Pu.mAct q c l)) w):=by
 have dl:∀p1 p2:Bool,decide (97≤c)=p1→decide (c≤100)=p2→decide (97≤c∧c≤100)=(p1 && p2):=fun p1 p2 h1 h2=>by rw [←h1,←h2,Bool.decide_and]
 have WH:=hide (fun (p:Prop) (_:Decidable p) (a:Int) (w1:World)=>when_any (decide p) a w1)
 rcases hq with rfl | rfl | rfl | rfl | rfl | rfl
 · -- a line's mode
  have R:Hid (Pu.mAct 0 c l=Pu.whenM (97≤c∧c≤100) 1):=rfl;have W1:=hide (fun w1=>when_any (decide (97≤c∧c≤100)) 1 w1);rw [whenM_if] at W1;rw [R.out];clear R WH;generalize Pu.whenM (97≤c∧c≤100) 1=r at *;cases e1:decide (97≤c) <;> cases e2:decide (c≤100)
  all_goals
   rw [dl _ _ e1 e2] at W1;simp only [Bool.and_true,Bool.and_false] at W1;clear dl;go_enter Try.func99,Try.ntmps99
   go_wp2_with fail
   refine (W1.out w).mono ?_
   rintro e w2 ⟨rfl,rfl⟩;go_wp2;go_ret;exact⟨rfl,rfl⟩
 · -- the blank behind it
  have R:Hid (Pu.mAct 1 c l=Pu.whenM (c=32) 2):=rfl;have W1:=hide (fun w1=>when_any (decide (c=32)) 2 w1);rw [whenM_if] at W1;rw [R.out];clear R WH dl;generalize Pu.whenM (c=32) 2=r at *;have ec:decide (c=32)=(c == 32):=rfl;rw [ec] at W1;clear ec;cases e1:decide (97≤c) <;> cases e2:decide (c≤100)
  all_goals
   go_enter Try.func99,Try.ntmps99
   go_wp2_with fail
   refine (W1.out w).mono ?_
   rintro e w2 ⟨rfl,rfl⟩;go_wp2;go_ret;exact⟨rfl,rfl⟩
 · -- e or s
  have R:Hid (Pu.mAct 12 c l=Pu.whenM (c=101∨c=115) 13):=rfl;have W1:=hide (fun w1=>when_any (decide (c=101∨c=115)) 13 w1);rw [whenM_if] at W1;rw [R.out];clear R WH dl;generalize Pu.whenM (c=101∨c=115) 13=r at *;have dk:decide (c=101∨c=115)=(decide (c=101) || decide (c=115)):=Bool.decide_or _ _;have ec1:decide (c=101)=(c == 101):=rfl;have ec2:decide (c=115)=(c == 115):=rfl;rw [ec1,ec2] at dk;rw [dk] at W1;clear dk ec1 ec2;cases e3:(c == 101) <;> cases e4:(c == 115) <;> cases e1:decide (97≤c) <;> cases e2:decide (c≤100)
  all_goals
   rw [e3,e4] at W1;simp only [Bool.or_true,Bool.or_false] at W1;go_enter Try.func99,Try.ntmps99
   go_wp2_with fail
   refine (W1.out w).mono ?_
   rintro e w2 ⟨rfl,rfl⟩;go_wp2;go_ret;exact⟨rfl,rfl⟩
 · -- what may stand behind it
  by_cases h1:c=62∨c=43
  ·have R:Hid (Pu.mAct 13 c l=14):=by
    show _=_;unfold Pu.mAct;rw [if_neg (by decide),if_neg (by decide),if_neg (by decide),if_neg (by decide),if_pos ⟨rfl,h1⟩]
   rw [R.out];clear R WH dl;rcases h1 with rfl | rfl
   all_goals
    go_enter Try.func99,Try.ntmps99;go_wp2;go_ret;exact⟨rfl,rfl⟩
  ·by_cases h2:c=60
   ·subst h2
    clear WH dl;go_enter Try.func99,Try.ntmps99;go_wp2;go_ret;exact⟨rfl,rfl⟩
   ·have R:Hid (Pu.mAct 13 c l=Pu.whenM (c=10∧l<16) 0):=by
     show _=_;unfold Pu.mAct;rw [if_neg (by decide),if_neg (by decide),if_neg (by decide),if_neg (by decide),if_neg (fun h=>h1 h.2),if_neg (fun h=>h2 h.2)]
    have W1:=hide (fun w1=>when_any (decide (c=10∧l<16)) 0 w1);rw [whenM_if] at W1;rw [R.out];clear R WH;generalize Pu.whenM (c=10∧l<16) 0=r at *;have n1:(c == 62)=false:=by simp;omega
    have n2:(c == 43)=false:=by simp;omega
    have n3:(c == 60)=false:=by simp;omega
    clear h1 h2;cases e3:(c == 10) <;> cases e4:decide (l<16)
    all_goals
     have ec:decide (c=10)=(c == 10):=rfl;rw [e3] at ec;have dk:decide (c=10∧l<16)=(decide (c=10) && decide (l<16)):=Bool.decide_and _ _;rw [ec,e4] at dk;simp only [Bool.and_true,Bool.and_false] at dk;rw [dk] at W1;clear dk ec dl;cases e1:decide (97≤c) <;> cases e2:decide (c≤100)
     all_goals
      go_enter Try.func99,Try.ntmps99
      go_wp2_with fail
      refine (W1.out w).mono ?_
      rintro e w2 ⟨rfl,rfl⟩;go_wp2;go_ret;exact⟨rfl,rfl⟩
 · -- an action's mode
  have R:Hid (Pu.mAct 14 c l=Pu.whenM (97≤c∧c≤100) 15):=rfl;have W1:=hide (fun w1=>when_any (decide (97≤c∧c≤100)) 15 w1);rw [whenM_if] at W1;rw [R.out];clear R WH;generalize Pu.whenM (97≤c∧c≤100) 15=r at *;cases e1:decide (97≤c) <;> cases e2:decide (c≤100)
  all_goals
   rw [dl _ _ e1 e2] at W1;simp only [Bool.and_true,Bool.and_false] at W1;clear dl;go_enter Try.func99,Try.ntmps99
   go_wp2_with fail
   refine (W1.out w).mono ?_
   rintro e w2 ⟨rfl,rfl⟩;go_wp2;go_ret;exact⟨rfl,rfl⟩
 · -- the next line
  have R:Hid (Pu.mAct 15 c l=Pu.whenM (c=10∧l<16) 0):=rfl;have W1:=hide (fun w1=>when_any (decide (c=10∧l<16)) 0 w1);rw [whenM_if] at W1;rw [R.out];clear R WH;generalize Pu.whenM (c=10∧l<16) 0=r at *;cases e3:(c == 10) <;> cases e4:decide (l<16)
  all_goals
   have ec:decide (c=10)=(c == 10):=rfl;rw [e3] at ec;have dk:decide (c=10∧l<16)=(decide (c=10) && decide (l<16)):=Bool.decide_and _ _;rw [ec,e4] at dk;simp only [Bool.and_true,Bool.and_false] at dk;rw [dk] at W1;clear dk ec dl;cases e1:decide (97≤c) <;> cases e2:decide (c≤100)
   all_goals
    go_enter Try.func99,Try.ntmps99
    go_wp2_with fail
    refine (W1.out w).mono ?_
    rintro e w2 ⟨rfl,rfl⟩;go_wp2;go_ret;exact⟨rfl,rfl⟩
end Go.Proofs.Ytmccnmgaoppogaa
