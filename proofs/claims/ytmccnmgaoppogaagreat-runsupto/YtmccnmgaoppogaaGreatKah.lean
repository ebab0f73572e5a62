import Derived.Test.YtmccnmgaoppogaaGreatEE
import Derived.Deep.CutRange
namespace Go.Proofs.YtmccnmgaoppogaaGreat
open Pu
set_option linter.all false
set_option maxRecDepth 100000
set_option maxHeartbeats 8000000
open Go.RowKit
def KV (v:V_) (w:W_) (e:Ending) (w':W_):Prop:=w'=w/\e=.returned v
def Wy (l:Y_) (c:Int):Bool:=(List.range l.size).any (fun i=>decide (bt l i=c))
theorem aaD {l:Y_} {c:Int} {k:Nat} (hk:k<l.size) (h:bt l k=c):Wy l c=true:=by unfold Wy;rw [List.any_eq_true];exact⟨k,List.mem_range.2 hk,dt_ h⟩
theorem Wz {l:Y_} {c:Int} (h:∀k,k<l.size->bt l k≠c):Wy l c=false:=by unfold Wy;rw [List.any_eq_false];intro k hk;simpa using h k (List.mem_range.1 hk)
theorem yO (l:Y_) (c:Int) (w:W_) (hl:l.size<=100) :
  C_ 58 #[.string l,.int .u8 c] w (KV (.bool (Wy l c)) w):=by
 go_enter Tryz.func58,Tryz.ntmps58
 go_wp2_with fail
 go_loopg [5] l.size (fun gk kv wx=>∃k:Nat,k<=l.size/\gk=l.size-k/\kv=I_ k/\wx=w/\∀j,j<k->bt l j≠c)
 case atStart=>exact⟨0,zl_ _,rfl,rfl,rfl,fun j hj=>by omega⟩
 case round=>
  obtain⟨k,kl,rfl,rfl,rfl,hno⟩:=hrel;have HN:=bK hno;clear hno;by_cases hlt:k<l.size
  .have d1:=nV k l.size;have x0:=fun w=>dU l (k:Int) k rfl (by omega) w
   have j0:=jg k;have j1:(k:Int)<l.size:=by omega
   have wi:=kg k;by_cases he:bt l k=c
   .have R:Hid (Wy l c=true):=aaD hlt he;rw [he] at x0;have e1:(c == c)=true:=by simp
    clear he;go_wp2;go_ret;exact⟨rfl,by rw [R.o];rfl⟩
   .have N2:Hid (∀j,j<k+1->bt l j≠c):=fun j hj=>by
     by_cases e:j=k
     .subst e;exact he
     .exact HN.o j (by omega)
    have e1:(bt l k == c)=false:=by simpa using he
    generalize bt l k=b at *;clear he HN;go_wp2;go_roundg (l.size-(k+1))
    case measure=>omega
    case rel=>exact⟨k+1,by omega,rfl,by go_num,rfl,N2.o⟩
  .have d1:=mM k l.size;have R:Hid (Wy l c=false):=Wz (fun j hj=>HN.o j (by omega));clear HN;go_wp2;go_ret;exact⟨rfl,by rw [R.o];rfl⟩
def ZW:Y_:={ data:=#[40,41,91,93,42,43,63,124,46,92,32,10] }
def ae0:Y_:={ data:=#[93,92,45,32,10] }
def Yt:Y_:={ data:=#[40,41,91,93,42,43,63,124,46,92,45,94,110,115] }
theorem WE (c:Int):Wy ZW c=!decide (Pu.Plain c):=by have:Wy ZW c=[40,41,91,93,42,43,63,124,46,92,32,10].any (fun b:Int=>decide (b=c)):=rfl;rw [this,Bool.eq_iff_iff];simp [Pu.Plain];omega
theorem aaC (c:Int):Wy ae0 c=!decide (lQ c):=by have:Wy ae0 c=[93,92,45,32,10].any (fun b:Int=>decide (b=c)):=rfl;rw [this,Bool.eq_iff_iff];simp [lQ];omega
theorem ac0 (c:Int):Wy Yt c=decide (gu c):=by have:Wy Yt c=[40,41,91,93,42,43,63,124,46,92,45,94,110,115].any (fun b:Int=>decide (b=c)):=rfl;rw [this,Bool.eq_iff_iff,decide_eq_true_eq];unfold gu;simp only [List.any_cons,List.any_nil,Bool.or_eq_true,decide_eq_true_eq,Bool.false_eq_true,or_false];omega
theorem VU (c:Int) (w:W_):C_ 92 #[.int .u8 c] w (KV (.bool (decide (Pu.Plain c))) w):=by
 have W:=bK (yO ZW c w (by decide));rw [WE] at W;generalize decide (Pu.Plain c)=b at *;go_enter Tryz.func92,Tryz.ntmps92
 go_wp2_with fail
 refine W.o.mono ?_
 rintro e w1 ⟨rfl,rfl⟩;go_wp2;go_ret
 exact⟨rfl,by simp⟩
theorem UG (c:Int) (w:W_):C_ 93 #[.int .u8 c] w (KV (.bool (decide (lQ c))) w):=by
 have W:=bK (yO ae0 c w (by decide));rw [aaC] at W;generalize decide (lQ c)=b at *;go_enter Tryz.func93,Tryz.ntmps93
 go_wp2_with fail
 refine W.o.mono ?_
 rintro e w1 ⟨rfl,rfl⟩;go_wp2;go_ret
 exact⟨rfl,by simp⟩
theorem iN (b:Bool) (a:Int) (w:W_):C_ 61 #[.bool b,I_ a] w (KV (I_ (if b=true then a else 16)) w):=by
 cases b with
 | true=>?_
 | false=>?_
 all_goals
  go_enter Tryz.func61,Tryz.ntmps61;go_wp2;go_ret;exact⟨rfl,rfl⟩
theorem lN (p:Prop) [Decidable p] (a:Int):(if decide p=true then a else 16)=dX p a:=by unfold dX;by_cases h:p <;> simp [h]
theorem Ia (c d:Int) (w:W_) (hd:-1000<=d/\d<=1000):C_ 59 #[.int .u8 c,I_ d] w (KV (.tuple #[I_ (mO c d).1,I_ (mO c d).2]) w):=by
 have wi:=xF (d+1);by_cases h1:c=40
 .subst h1;go_enter Tryz.func59,Tryz.ntmps59;go_wp2
  go_ret2
  exact⟨rfl,rfl⟩
 by_cases h2:c=91
 .subst h2;go_enter Tryz.func59,Tryz.ntmps59;go_wp2
  go_ret2
  exact⟨rfl,rfl⟩
 by_cases h3:c=92
 .subst h3;go_enter Tryz.func59,Tryz.ntmps59;go_wp2
  go_ret2
  exact⟨rfl,rfl⟩
 by_cases h4:c=46
 .subst h4;go_enter Tryz.func59,Tryz.ntmps59;go_wp2
  go_ret2
  exact⟨rfl,rfl⟩
 have e1:(c == 40)=false:=by simpa using h1
 have e2:(c == 91)=false:=by simpa using h2
 have e3:(c == 92)=false:=by simpa using h3
 have e4:(c == 46)=false:=by simpa using h4
 have R:Hid (mO c d=(dX (Pu.Plain c) 3,d)):=by show _=_;unfold mO;rw [if_neg h1,if_neg h2,if_neg h3,if_neg h4]
 clear h1 h2 h3 h4;go_enter Tryz.func59,Tryz.ntmps59
 go_wp2_with fail
 refine (VU c w).mono ?_
 rintro e w1 ⟨rfl,rfl⟩
 go_wp2_with fail
 refine (iN _ 3 w1).mono ?_
 rintro e w2 ⟨rfl,rfl⟩;rw [lN];generalize dX (Pu.Plain c) 3=r at *;go_wp2
 go_ret2
 exact⟨rfl,by rw [R.o];rfl⟩
theorem UD (c d:Int) (w:W_) (hd:-1000<=d/\d<=1000):C_ 60 #[.int .u8 c,I_ d] w (KV (.tuple #[I_ (mE c d).1,I_ (mE c d).2]) w):=by
 have wi:=xF (d-1);by_cases h1:c=42\/c=43\/c=63
 .rcases h1 with rfl | rfl | rfl
  all_goals
   go_enter Tryz.func60,Tryz.ntmps60;go_wp2
   go_ret2
   exact⟨rfl,rfl⟩
 by_cases h2:c=124
 .subst h2;go_enter Tryz.func60,Tryz.ntmps60;go_wp2
  go_ret2
  exact⟨rfl,rfl⟩
 by_cases h3:c=41
 .subst h3;go_enter Tryz.func60,Tryz.ntmps60
  go_wp2_with fail
  refine (iN _ 3 w).mono ?_
  rintro e w2 ⟨rfl,rfl⟩;generalize hr:(if decide (0<d)=true then (3:Int) else 16)=r;rw [lN] at hr;have HR:=bK hr;clear hr;go_wp2
  go_ret2
  refine⟨rfl,?_⟩;show Ending.returned (.tuple #[I_ r,I_ (d-1)])=Ending.returned (.tuple #[I_ (dX (0<d) 3),I_ (d-1)]);rw [HR.o]
 by_cases h4:c=32
 .subst h4;go_enter Tryz.func60,Tryz.ntmps60
  go_wp2_with fail
  refine (iN (decide (d=0)) 12 w).mono ?_
  rintro e w2 ⟨rfl,rfl⟩;generalize hr:(if decide (d=0)=true then (12:Int) else 16)=r;rw [lN] at hr;have HR:=bK hr;clear hr;go_wp2
  go_ret2
  refine⟨rfl,?_⟩;show Ending.returned (.tuple #[I_ r,I_ d])=Ending.returned (.tuple #[I_ (dX (d=0) 12),I_ d]);rw [HR.o]
 have e1:(c == 42)=false:=by simp;omega
 have e2:(c == 43)=false:=by simp;omega
 have e3:(c == 63)=false:=by simp;omega
 have e4:(c == 124)=false:=by simpa using h2
 have e5:(c == 41)=false:=by simpa using h3
 have e6:(c == 32)=false:=by simpa using h4
 have R:Hid (mE c d=mO c d):=by show _=_;unfold mE;rw [if_neg h1,if_neg h2,if_neg h3,if_neg h4]
 clear h1 h2 h3 h4;go_enter Tryz.func60,Tryz.ntmps60
 go_wp2_with fail
 refine (Ia c d w hd).mono ?_
 rintro e w1 ⟨rfl,rfl⟩;go_wp2
 go_ret2
 exact⟨rfl,by rw [R.o];rfl⟩
theorem uy (q c:Int) (w:W_) (hq:q=5\/q=6\/q=7\/q=9\/q=11):C_ 62 #[I_ q,.int .u8 c] w (KV (I_ (iQ q c)) w):=by
 have SG:=bK (UG c w);by_cases h1:c=94
 .subst h1;rw [show decide (lQ 94)=true from rfl] at SG;rcases hq with rfl | rfl | rfl | rfl | rfl
  all_goals
   go_enter Tryz.func62,Tryz.ntmps62
   go_wp2_with fail
   refine SG.o.mono ?_
   rintro e w1 ⟨rfl,rfl⟩
   go_wp2_with (first | (refine (iN true _ w1).mono ?_;rintro e w2 ⟨rfl,rfl⟩))
   go_ret;exact⟨rfl,rfl⟩
 by_cases ui:c=92
 .subst ui;rw [show decide (lQ 92)=false from rfl] at SG;rcases hq with rfl | rfl | rfl | rfl | rfl
  all_goals
   go_enter Tryz.func62,Tryz.ntmps62
   go_wp2_with fail
   refine SG.o.mono ?_
   rintro e w1 ⟨rfl,rfl⟩
   go_wp2_with (first | (refine (iN false _ w1).mono ?_;rintro e w2 ⟨rfl,rfl⟩))
   go_ret;exact⟨rfl,rfl⟩
 by_cases Kl:c=93
 .subst Kl;rw [show decide (lQ 93)=false from rfl] at SG;rcases hq with rfl | rfl | rfl | rfl | rfl
  all_goals
   go_enter Tryz.func62,Tryz.ntmps62
   go_wp2_with fail
   refine SG.o.mono ?_
   rintro e w1 ⟨rfl,rfl⟩
   go_wp2_with (first | (refine (iN false _ w1).mono ?_;rintro e w2 ⟨rfl,rfl⟩))
   go_ret;exact⟨rfl,rfl⟩
 by_cases h45:c=45
 .subst h45;rw [show decide (lQ 45)=false from rfl] at SG;rcases hq with rfl | rfl | rfl | rfl | rfl
  all_goals
   go_enter Tryz.func62,Tryz.ntmps62
   go_wp2_with fail
   refine SG.o.mono ?_
   rintro e w1 ⟨rfl,rfl⟩
   go_wp2_with (first | (refine (iN false _ w1).mono ?_;rintro e w2 ⟨rfl,rfl⟩))
   go_ret;exact⟨rfl,rfl⟩
 have e1:(c == 94)=false:=by simpa using h1
 have e2:(c == 92)=false:=by simpa using ui
 have e3:(c == 93)=false:=by simpa using Kl
 have e4:(c == 45)=false:=by simpa using h45
 have W7:=bK (fun w1=>iN (decide (lQ c)) 7 w1);have W11:=bK (fun w1=>iN (decide (lQ c)) 11 w1);rw [lN] at W7 W11;by_cases hq9:q=9
 .subst hq9;have R:Hid (iQ 9 c=dX (lQ c) 11):=by show _=_;unfold iQ;rw [if_neg (by omega),if_neg (by omega),if_pos rfl]
  rw [R.o];generalize dX (lQ c) 11=r at *;generalize decide (lQ c)=sb at *;clear hq R W7 h1 ui Kl h45;go_enter Tryz.func62,Tryz.ntmps62
  go_wp2_with fail
  refine SG.o.mono ?_
  rintro e w1 ⟨rfl,rfl⟩
  go_wp2_with fail
  refine (W11.o w1).mono ?_
  rintro e w2 ⟨rfl,rfl⟩;go_wp2;go_ret;exact⟨rfl,rfl⟩
 .have R:Hid (iQ q c=dX (lQ c) 7):=by show _=_;unfold iQ;rw [if_neg (by omega),if_neg (by omega),if_neg (by omega),if_neg (by omega),if_neg (by omega),if_neg (by omega)]
  rw [R.o];generalize dX (lQ c) 7=r at *;generalize decide (lQ c)=sb at *;clear R W11 h1 ui Kl h45;rcases hq with rfl | rfl | rfl | rfl | rfl
  case inr.inr.inr.inl=>exact absurd rfl hq9
  all_goals
   clear hq9;go_enter Tryz.func62,Tryz.ntmps62
   go_wp2_with fail
   refine SG.o.mono ?_
   rintro e w1 ⟨rfl,rfl⟩
   go_wp2_with fail
   refine (W7.o w1).mono ?_
   rintro e w2 ⟨rfl,rfl⟩;go_wp2;go_ret;exact⟨rfl,rfl⟩
theorem uw (q c l:Int) (w:W_) (hq:q=0\/q=1\/q=12\/q=13\/q=14\/q=15):C_ 63 #[I_ q,.int .u8 c,I_ l] w (KV (I_ (iK q c l)) w):=by
 have dl:∀p1 p2:Bool,decide (97<=c)=p1->decide (c<=100)=p2->decide (97<=c/\c<=100)=(p1 && p2):=fun p1 p2 h1 h2=>by rw [<-h1,<-h2,Bool.decide_and]
 have WH:=bK (fun (p:Prop) (_:Decidable p) (a:Int) (w1:W_)=>iN (decide p) a w1);rcases hq with rfl | rfl | rfl | rfl | rfl | rfl
 focus
  -- a line's mode
  have R:Hid (iK 0 c l=dX (97<=c/\c<=100) 1):=rfl;have W1:=bK (fun w1=>iN (decide (97<=c/\c<=100)) 1 w1);rw [lN] at W1;rw [R.o];clear R WH;generalize dX (97<=c/\c<=100) 1=r at *
 rotate_left
 . -- the blank behind it
  have R:Hid (iK 1 c l=dX (c=32) 2):=rfl;have W1:=bK (fun w1=>iN (decide (c=32)) 2 w1);rw [lN] at W1;rw [R.o];clear R WH dl;generalize dX (c=32) 2=r at *;have ec:decide (c=32)=(c == 32):=rfl;rw [ec] at W1;clear ec;cases e1:decide (97<=c) <;> cases e2:decide (c<=100)
  all_goals
   go_enter Tryz.func63,Tryz.ntmps63
   go_wp2_with fail
   refine (W1.o w).mono ?_
   rintro e w2 ⟨rfl,rfl⟩;go_wp2;go_ret;exact⟨rfl,rfl⟩
 . -- e or s
  have R:Hid (iK 12 c l=dX (c=101\/c=115) 13):=rfl;have W1:=bK (fun w1=>iN (decide (c=101\/c=115)) 13 w1);rw [lN] at W1;rw [R.o];clear R WH dl;generalize dX (c=101\/c=115) 13=r at *;have dk:decide (c=101\/c=115)=(decide (c=101) || decide (c=115)):=Bool.decide_or _ _;have ec1:decide (c=101)=(c == 101):=rfl;have ec2:decide (c=115)=(c == 115):=rfl;rw [ec1,ec2] at dk;rw [dk] at W1;clear dk ec1 ec2;cases e3:(c == 101) <;> cases e4:(c == 115) <;> cases e1:decide (97<=c) <;> cases e2:decide (c<=100)
  all_goals
   rw [e3,e4] at W1;simp only [Bool.or_true,Bool.or_false] at W1;go_enter Tryz.func63,Tryz.ntmps63
   go_wp2_with fail
   refine (W1.o w).mono ?_
   rintro e w2 ⟨rfl,rfl⟩;go_wp2;go_ret;exact⟨rfl,rfl⟩
 . -- what may stand behind it
  by_cases h1:c=62\/c=43
  .have R:Hid (iK 13 c l=14):=by show _=_;unfold iK;rw [if_neg (by decide),if_neg (by decide),if_neg (by decide),if_neg (by decide),if_pos ⟨rfl,h1⟩]
   rw [R.o];clear R WH dl;rcases h1 with rfl | rfl
   all_goals
    go_enter Tryz.func63,Tryz.ntmps63;go_wp2;go_ret;exact⟨rfl,rfl⟩
  .by_cases h2:c=60
   .subst h2;clear WH dl;go_enter Tryz.func63,Tryz.ntmps63;go_wp2;go_ret;exact⟨rfl,rfl⟩
   .have R:Hid (iK 13 c l=dX (c=10/\l<16) 0):=by show _=_;unfold iK;rw [if_neg (by decide),if_neg (by decide),if_neg (by decide),if_neg (by decide),if_neg (fun h=>h1 h.2),if_neg (fun h=>h2 h.2)]
    have W1:=bK (fun w1=>iN (decide (c=10/\l<16)) 0 w1);rw [lN] at W1;rw [R.o];clear R WH;generalize dX (c=10/\l<16) 0=r at *;have n1:(c == 62)=false:=by simp;omega
    have n2:(c == 43)=false:=by simp;omega
    have n3:(c == 60)=false:=by simp;omega
    clear h1 h2;cases e3:(c == 10) <;> cases e4:decide (l<16)
    all_goals
     have ec:decide (c=10)=(c == 10):=rfl;rw [e3] at ec;have dk:decide (c=10/\l<16)=(decide (c=10) && decide (l<16)):=Bool.decide_and _ _;rw [ec,e4] at dk;simp only [Bool.and_true,Bool.and_false] at dk;rw [dk] at W1;clear dk ec dl;cases e1:decide (97<=c) <;> cases e2:decide (c<=100)
     all_goals
      go_enter Tryz.func63,Tryz.ntmps63
      go_wp2_with fail
      refine (W1.o w).mono ?_
      rintro e w2 ⟨rfl,rfl⟩;go_wp2;go_ret;exact⟨rfl,rfl⟩
 focus
  -- an action's mode
  have R:Hid (iK 14 c l=dX (97<=c/\c<=100) 15):=rfl;have W1:=bK (fun w1=>iN (decide (97<=c/\c<=100)) 15 w1);rw [lN] at W1;rw [R.o];clear R WH;generalize dX (97<=c/\c<=100) 15=r at *
 rotate_left
 . -- the next line
  have R:Hid (iK 15 c l=dX (c=10/\l<16) 0):=rfl;have W1:=bK (fun w1=>iN (decide (c=10/\l<16)) 0 w1);rw [lN] at W1;rw [R.o];clear R WH;generalize dX (c=10/\l<16) 0=r at *;cases e3:(c == 10) <;> cases e4:decide (l<16)
  all_goals
   have ec:decide (c=10)=(c == 10):=rfl;rw [e3] at ec;have dk:decide (c=10/\l<16)=(decide (c=10) && decide (l<16)):=Bool.decide_and _ _;rw [ec,e4] at dk;simp only [Bool.and_true,Bool.and_false] at dk;rw [dk] at W1;clear dk ec dl;cases e1:decide (97<=c) <;> cases e2:decide (c<=100)
   all_goals
    go_enter Tryz.func63,Tryz.ntmps63
    go_wp2_with fail
    refine (W1.o w).mono ?_
    rintro e w2 ⟨rfl,rfl⟩;go_wp2;go_ret;exact⟨rfl,rfl⟩
 all_goals
  cases e1:decide (97<=c) <;> cases e2:decide (c<=100)
  all_goals
   rw [dl _ _ e1 e2] at W1;simp only [Bool.and_true,Bool.and_false] at W1;clear dl;go_enter Tryz.func63,Tryz.ntmps63
   go_wp2_with fail
   refine (W1.o w).mono ?_
   rintro e w2 ⟨rfl,rfl⟩;go_wp2;go_ret;exact⟨rfl,rfl⟩
namespace Pu
theorem jQ {p:Prop} [Decidable p] {a:Int} (h:0<=a/\a<=15):0<=dX p a/\dX p a<=16:=by unfold dX;split <;> omega
theorem Iq (c d:Int):0<=(mO c d).1/\(mO c d).1<=16/\d<=(mO c d).2/\(mO c d).2<=d+1:=by
 unfold mO;have:=jQ (p:=Plain c) (a:=3) (by omega);split
 .simp only;omega
 .split
  .simp only;omega
  .split
   .simp only;omega
   .split
    .simp only;omega
    .simp only;omega
theorem Vv (c d:Int):0<=(mE c d).1/\(mE c d).1<=16/\d-1<=(mE c d).2/\(mE c d).2<=d+1:=by
 have h1:=Iq c d;have h2:=jQ (p:=0<d) (a:=3) (by omega);have h3:=jQ (p:=d=0) (a:=12) (by omega);unfold mE;split
 .simp only;omega
 .split
  .simp only;omega
  .split
   .simp only;omega
   .split
    .simp only;omega
    .omega
theorem Vu (w c:Int):0<=iQ w c/\iQ w c<=16:=by
 have h1:=jQ (p:=lQ c) (a:=11) (by omega);have h2:=jQ (p:=lQ c) (a:=7) (by omega);unfold iQ
 repeat' split
 all_goals omega
theorem Zt (w c l:Int):0<=iK w c l/\iK w c l<=16:=by
 have h1:=jQ (p:=97<=c/\c<=100) (a:=1) (by omega);have h2:=jQ (p:=c=32) (a:=2) (by omega);have h3:=jQ (p:=c=101\/c=115) (a:=13) (by omega);have h4:=jQ (p:=97<=c/\c<=100) (a:=15) (by omega);have h5:=jQ (p:=c=10/\l<16) (a:=0) (by omega);unfold iK
 repeat' split
 all_goals omega
theorem acQ (q:Mq) (c:Int):0<=(IK q c).1/\(IK q c).1<=16/\q.d-1<=(IK q c).2/\(IK q c).2<=q.d+1:=by
 have h1:=Iq c q.d;have h2:=Vv c q.d;have h3:=Vu q.w c;have h4:=Zt q.w c q.l;have h5:=jQ (p:=gu c) (a:=3) (by omega);have h6:=jQ (p:=gu c) (a:=7) (by omega);have h7:=jQ (p:=gu c) (a:=11) (by omega);unfold IK;split
 .omega
 .split
  .omega
  .split
   .simp only;omega
   .split
    .simp only;omega
    .split
     .simp only;omega
     .split
      .simp only;omega
      .simp only;omega
end Pu
def ad3 (s:Y_) (w:W_) (e:Ending) (w':W_):Prop:=w'=w/\
 ((∃k:Nat,nW s 0 Pu.aW k/\e=.returned (.tuple #[I_ k,.bool false]))\/
  (∃q:Pu.Mq,eF s 0 Pu.aW s.size q/\(q.w=13\/q.w=15)/\e=.returned (.tuple #[I_ s.size,.bool true])))
theorem FQ (s:Y_) (w:W_) (hs:s.size<=400):C_ 27 #[.string s] w (ad3 s w):=by
 go_enter Tryz.func27,Tryz.ntmps27
 go_wp2_with fail
 go_loopg [4,5,6,7,8,9,10] s.size (fun gk wv dv lv iv _ _ _ wx=>∃(i:Nat) (qw qd ql:Int),i<=s.size/\gk=s.size-i/\wv=I_ qw/\dv=I_ qd/\lv=I_ ql/\iv=I_ i/\wx=w/\0<=qw/\qw<=15/\-(i:Int)<=qd/\qd<=i/\1<=ql/\ql<=i+1/\eF s 0 Pu.aW i ⟨qw,qd,ql⟩)
 case atStart=>exact⟨0,0,0,1,zl_ _,rfl,rfl,rfl,rfl,rfl,rfl,by omega,by omega,by omega,by omega,by omega,by omega,.refl _ _⟩
 case round=>
  obtain⟨i,qw,qd,ql,il,rfl,rfl,rfl,rfl,rfl,rfl,aW,q1,d0,d1,l0,l1,hG⟩:=hrel;have HG:=bK hG;clear hG;by_cases hlt:i<s.size
  .have dd:=nV i s.size;have x0:=fun w=>dU s (i:Int) i rfl (by omega) w
   have j0:=jg i;have j1:(i:Int)<s.size:=by omega
   have wi:=kg i;have wl:=xF (ql+1);have xw:=acQ ⟨qw,qd,ql⟩ (bt s i);have cb:=iC s i
   have NX:Hid (∀(p:Int × Int),IK ⟨qw,qd,ql⟩ (bt s i)=p->(p.1=16->nW s 0 Pu.aW i)/\(p.1≠16->eF s 0 Pu.aW (i+1) ⟨p.1,p.2,if p.1=0/\qw≠0 then ql+1 else ql⟩)):=by
    intro p hp;refine⟨fun h=>⟨_,HG.o,.inr ⟨hlt,by rw [hp];exact h⟩⟩,fun h=>HG.o.trans (.step hlt (by rw [hp];exact h) ?_)⟩;have:Pu.nxt ⟨qw,qd,ql⟩ (bt s i)=⟨p.1,p.2,if p.1=0/\qw≠0 then ql+1 else ql⟩:=by unfold Pu.nxt;rw [hp]
    rw [this];exact .refl _ _
   clear HG;obtain⟨c,hc⟩:∃c,c=bt s i:=⟨_,rfl⟩;rw [<-hc] at x0 xw NX cb;clear hc;have WI:=bK (yO Yt c wr (by decide));rw [ac0] at WI
   go_wp2_with fail
   refine WI.o.mono ?_
   clear WI;rintro e w1 ⟨rfl,rfl⟩;have hq:qw=0\/qw=1\/qw=2\/qw=3\/qw=4\/qw=5\/qw=6\/qw=7\/qw=8\/qw=9\/qw=10\/qw=11\/qw=12\/qw=13\/qw=14\/qw=15:=by omega
   rcases hq with rfl | rfl | rfl | rfl | rfl | rfl | rfl | rfl | rfl | rfl | rfl | rfl | rfl | rfl | rfl | rfl
   .go_wp2_with fail
    refine (uw 0 c ql w1 (by decide)).mono ?_
    rintro e w2 ⟨rfl,rfl⟩;have nx:=NX.o (iK 0 c ql,qd) rfl;have xw:0<=iK 0 c ql/\iK 0 c ql<=16/\qd-1<=qd/\qd<=qd+1:=xw;clear NX;generalize iK 0 c ql=pw at *;simp only at nx;by_cases h16:pw=16
    .have e1:(pw == 16)=true:=by simpa using h16
     have FF:=bK (nx.1 h16);clear nx h16;go_wp2
     go_ret2
     exact⟨rfl,.inl ⟨i,FF.o,rfl⟩⟩
    .have e1:(pw == 16)=false:=by simpa using h16
     have GG:=bK (nx.2 h16);clear nx;by_cases hz:pw=0
     focus
      have e2:(pw == 0)=true:=by simpa using hz
      rw [if_neg (fun h=>h.2 rfl)] at GG
     rotate_left
     focus
      have e2:(pw == 0)=false:=by simpa using hz
      rw [if_neg (fun h=>hz h.1)] at GG
     all_goals
      have hpw:pw<=15:=by omega
      clear hz h16;go_wp2;go_roundg (s.size-(i+1))
      case measure=>omega
      case rel=>exact⟨i+1,pw,qd,ql,by omega,rfl,rfl,rfl,rfl,by go_num,rfl,by omega,by omega,by omega,by omega,by omega,by omega,GG.o⟩
   focus
    go_wp2_with fail
    refine (uw 1 c ql w1 (by decide)).mono ?_
    rintro e w2 ⟨rfl,rfl⟩;have nx:=NX.o (iK 1 c ql,qd) rfl;have xw:0<=iK 1 c ql/\iK 1 c ql<=16/\qd-1<=qd/\qd<=qd+1:=xw;clear NX;generalize iK 1 c ql=pw at *
   rotate_left
   .go_wp2_with fail
    refine (Ia c qd w1 (by omega)).mono ?_
    rintro e w2 ⟨rfl,rfl⟩;have nx:=NX.o (mO c qd) rfl;have xw:0<=(mO c qd).1/\(mO c qd).1<=16/\qd-1<=(mO c qd).2/\(mO c qd).2<=qd+1:=xw;clear NX;generalize mO c qd=p at *;obtain⟨pw,pd⟩:=p;simp only at xw nx;by_cases h16:pw=16
    .have e1:(pw == 16)=true:=by simpa using h16
     have FF:=bK (nx.1 h16);clear nx h16;go_wp2
     go_ret2
     exact⟨rfl,.inl ⟨i,FF.o,rfl⟩⟩
    .have e1:(pw == 16)=false:=by simpa using h16
     have GG:=bK (nx.2 h16);clear nx;by_cases hz:pw=0
     .have e2:(pw == 0)=true:=by simpa using hz
      rw [if_pos ⟨hz,by decide⟩] at GG;have hpw:pw<=15:=by omega
      clear hz h16;go_wp2;go_roundg (s.size-(i+1))
      case measure=>omega
      case rel=>exact⟨i+1,pw,pd,ql+1,by omega,rfl,rfl,rfl,rfl,by go_num,rfl,by omega,by omega,by omega,by omega,by omega,by omega,GG.o⟩
     .have e2:(pw == 0)=false:=by simpa using hz
      rw [if_neg (fun h=>hz h.1)] at GG;have hpw:pw<=15:=by omega
      clear hz h16;go_wp2;go_roundg (s.size-(i+1))
      case measure=>omega
      case rel=>exact⟨i+1,pw,pd,ql,by omega,rfl,rfl,rfl,rfl,by go_num,rfl,by omega,by omega,by omega,by omega,by omega,by omega,GG.o⟩
   .go_wp2_with fail
    refine (UD c qd w1 (by omega)).mono ?_
    rintro e w2 ⟨rfl,rfl⟩;have nx:=NX.o (mE c qd) rfl;have xw:0<=(mE c qd).1/\(mE c qd).1<=16/\qd-1<=(mE c qd).2/\(mE c qd).2<=qd+1:=xw;clear NX;generalize mE c qd=p at *;obtain⟨pw,pd⟩:=p;simp only at xw nx;by_cases h16:pw=16
    .have e1:(pw == 16)=true:=by simpa using h16
     have FF:=bK (nx.1 h16);clear nx h16;go_wp2
     go_ret2
     exact⟨rfl,.inl ⟨i,FF.o,rfl⟩⟩
    .have e1:(pw == 16)=false:=by simpa using h16
     have GG:=bK (nx.2 h16);clear nx;by_cases hz:pw=0
     .have e2:(pw == 0)=true:=by simpa using hz
      rw [if_pos ⟨hz,by decide⟩] at GG;have hpw:pw<=15:=by omega
      clear hz h16;go_wp2;go_roundg (s.size-(i+1))
      case measure=>omega
      case rel=>exact⟨i+1,pw,pd,ql+1,by omega,rfl,rfl,rfl,rfl,by go_num,rfl,by omega,by omega,by omega,by omega,by omega,by omega,GG.o⟩
     .have e2:(pw == 0)=false:=by simpa using hz
      rw [if_neg (fun h=>hz h.1)] at GG;have hpw:pw<=15:=by omega
      clear hz h16;go_wp2;go_roundg (s.size-(i+1))
      case measure=>omega
      case rel=>exact⟨i+1,pw,pd,ql,by omega,rfl,rfl,rfl,rfl,by go_num,rfl,by omega,by omega,by omega,by omega,by omega,by omega,GG.o⟩
   focus
    go_wp2_with fail
    refine (iN (decide (gu c)) 3 w1).mono ?_
    rintro e w2 ⟨rfl,rfl⟩;rw [lN];have nx:=NX.o (dX (gu c) 3,qd) rfl;have xw:0<=dX (gu c) 3/\dX (gu c) 3<=16/\qd-1<=qd/\qd<=qd+1:=xw;clear NX;generalize dX (gu c) 3=pw at *
   rotate_left
   focus
    go_wp2_with fail
    refine (uy 5 c w1 (by decide)).mono ?_
    rintro e w2 ⟨rfl,rfl⟩;have nx:=NX.o (iQ 5 c,qd) rfl;have xw:0<=iQ 5 c/\iQ 5 c<=16/\qd-1<=qd/\qd<=qd+1:=xw;clear NX;generalize iQ 5 c=pw at *
   rotate_left
   focus
    go_wp2_with fail
    refine (uy 6 c w1 (by decide)).mono ?_
    rintro e w2 ⟨rfl,rfl⟩;have nx:=NX.o (iQ 6 c,qd) rfl;have xw:0<=iQ 6 c/\iQ 6 c<=16/\qd-1<=qd/\qd<=qd+1:=xw;clear NX;generalize iQ 6 c=pw at *
   rotate_left
   focus
    go_wp2_with fail
    refine (uy 7 c w1 (by decide)).mono ?_
    rintro e w2 ⟨rfl,rfl⟩;have nx:=NX.o (iQ 7 c,qd) rfl;have xw:0<=iQ 7 c/\iQ 7 c<=16/\qd-1<=qd/\qd<=qd+1:=xw;clear NX;generalize iQ 7 c=pw at *
   rotate_left
   focus
    go_wp2_with fail
    refine (iN (decide (gu c)) 7 w1).mono ?_
    rintro e w2 ⟨rfl,rfl⟩;rw [lN];have nx:=NX.o (dX (gu c) 7,qd) rfl;have xw:0<=dX (gu c) 7/\dX (gu c) 7<=16/\qd-1<=qd/\qd<=qd+1:=xw;clear NX;generalize dX (gu c) 7=pw at *
   rotate_left
   focus
    go_wp2_with fail
    refine (uy 9 c w1 (by decide)).mono ?_
    rintro e w2 ⟨rfl,rfl⟩;have nx:=NX.o (iQ 9 c,qd) rfl;have xw:0<=iQ 9 c/\iQ 9 c<=16/\qd-1<=qd/\qd<=qd+1:=xw;clear NX;generalize iQ 9 c=pw at *
   rotate_left
   focus
    go_wp2_with fail
    refine (iN (decide (gu c)) 11 w1).mono ?_
    rintro e w2 ⟨rfl,rfl⟩;rw [lN];have nx:=NX.o (dX (gu c) 11,qd) rfl;have xw:0<=dX (gu c) 11/\dX (gu c) 11<=16/\qd-1<=qd/\qd<=qd+1:=xw;clear NX;generalize dX (gu c) 11=pw at *
   rotate_left
   focus
    go_wp2_with fail
    refine (uy 11 c w1 (by decide)).mono ?_
    rintro e w2 ⟨rfl,rfl⟩;have nx:=NX.o (iQ 11 c,qd) rfl;have xw:0<=iQ 11 c/\iQ 11 c<=16/\qd-1<=qd/\qd<=qd+1:=xw;clear NX;generalize iQ 11 c=pw at *
   rotate_left
   focus
    go_wp2_with fail
    refine (uw 12 c ql w1 (by decide)).mono ?_
    rintro e w2 ⟨rfl,rfl⟩;have nx:=NX.o (iK 12 c ql,qd) rfl;have xw:0<=iK 12 c ql/\iK 12 c ql<=16/\qd-1<=qd/\qd<=qd+1:=xw;clear NX;generalize iK 12 c ql=pw at *
   rotate_left
   focus
    go_wp2_with fail
    refine (uw 13 c ql w1 (by decide)).mono ?_
    rintro e w2 ⟨rfl,rfl⟩;have nx:=NX.o (iK 13 c ql,qd) rfl;have xw:0<=iK 13 c ql/\iK 13 c ql<=16/\qd-1<=qd/\qd<=qd+1:=xw;clear NX;generalize iK 13 c ql=pw at *
   rotate_left
   focus
    go_wp2_with fail
    refine (uw 14 c ql w1 (by decide)).mono ?_
    rintro e w2 ⟨rfl,rfl⟩;have nx:=NX.o (iK 14 c ql,qd) rfl;have xw:0<=iK 14 c ql/\iK 14 c ql<=16/\qd-1<=qd/\qd<=qd+1:=xw;clear NX;generalize iK 14 c ql=pw at *
   rotate_left
   focus
    go_wp2_with fail
    refine (uw 15 c ql w1 (by decide)).mono ?_
    rintro e w2 ⟨rfl,rfl⟩;have nx:=NX.o (iK 15 c ql,qd) rfl;have xw:0<=iK 15 c ql/\iK 15 c ql<=16/\qd-1<=qd/\qd<=qd+1:=xw;clear NX;generalize iK 15 c ql=pw at *
   all_goals
    simp only at nx;by_cases h16:pw=16
    .have e1:(pw == 16)=true:=by simpa using h16
     have FF:=bK (nx.1 h16);clear nx h16;go_wp2
     go_ret2
     exact⟨rfl,.inl ⟨i,FF.o,rfl⟩⟩
    .have e1:(pw == 16)=false:=by simpa using h16
     have GG:=bK (nx.2 h16);clear nx;by_cases hz:pw=0
     .have e2:(pw == 0)=true:=by simpa using hz
      rw [if_pos ⟨hz,by decide⟩] at GG;have hpw:pw<=15:=by omega
      clear hz h16;go_wp2;go_roundg (s.size-(i+1))
      case measure=>omega
      case rel=>exact⟨i+1,pw,qd,ql+1,by omega,rfl,rfl,rfl,rfl,by go_num,rfl,by omega,by omega,by omega,by omega,by omega,by omega,GG.o⟩
     .have e2:(pw == 0)=false:=by simpa using hz
      rw [if_neg (fun h=>hz h.1)] at GG;have hpw:pw<=15:=by omega
      clear hz h16;go_wp2;go_roundg (s.size-(i+1))
      case measure=>omega
      case rel=>exact⟨i+1,pw,qd,ql,by omega,rfl,rfl,rfl,rfl,by go_num,rfl,by omega,by omega,by omega,by omega,by omega,by omega,GG.o⟩
  .have dd:=mM i s.size;have ei:i=s.size:=by omega
   by_cases h13:qw=13
   .have e1:(qw == 13)=true:=by simpa using h13
    have FF:Hid (∃q:Pu.Mq,eF s 0 Pu.aW s.size q/\(q.w=13\/q.w=15)):=⟨_,by rw [<-ei];exact HG.o,.inl h13⟩;clear HG h13 ei;go_wp2
    go_ret2
    obtain⟨q,g1,g2⟩:=FF.o;exact⟨rfl,.inr ⟨q,g1,g2,rfl⟩⟩
   .have e1:(qw == 13)=false:=by simpa using h13
    by_cases h15:qw=15
    .have e2:(qw == 15)=true:=by simpa using h15
     have FF:Hid (∃q:Pu.Mq,eF s 0 Pu.aW s.size q/\(q.w=13\/q.w=15)):=⟨_,by rw [<-ei];exact HG.o,.inr h15⟩;clear HG h13 h15 ei;go_wp2
     go_ret2
     obtain⟨q,g1,g2⟩:=FF.o;exact⟨rfl,.inr ⟨q,g1,g2,rfl⟩⟩
    .have e2:(qw == 15)=false:=by simpa using h15
     have FF:Hid (nW s 0 Pu.aW s.size):=⟨_,by rw [<-ei];exact HG.o,.inl ⟨rfl,h13,h15⟩⟩;clear HG h13 h15 ei;go_wp2
     go_ret2
     exact⟨rfl,.inl ⟨_,FF.o,rfl⟩⟩
end Go.Proofs.YtmccnmgaoppogaaGreat
