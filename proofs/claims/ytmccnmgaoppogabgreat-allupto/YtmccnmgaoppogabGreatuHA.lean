import Derived.Test.YtmccnmgaoppogabGreatuKaf
namespace Go.Proofs.YtmccnmgaoppogabGreat
open Pu
set_option linter.all false
open Go.Proofs.Tryz Tryz
set_option maxRecDepth 100000
set_option maxHeartbeats 8000000
open Go.RowKit
def Nu(v:V_)(w:W_)(e:Ending)(w':W_):Prop:=w'=w/\e=.returned v
def Zf(l:Y_)(c:Int):Bool:=(List.range l.size).any (fun i=>decide (bt l i=c))
theorem acY{l:Y_}{c:Int}{k:Nat}(a:k<l.size)(h:bt l k=c):Zf l c=true:=by unfold Zf;rw[List.any_eq_true];exact⟨k,List.mem_range.2 a,dt_ h⟩
theorem Zg{l:Y_}{c:Int}(h:∀k,k<l.size->bt l k≠c):Zf l c=false:=by unfold Zf;rw[List.any_eq_false];intro k a;simpa using h k (List.mem_range.1 a)
theorem zY(l:Y_)(c:Int)(w:W_)(q:l.size<=100) :
  Calls prog 72 #[.string l,.int .u8 c] w (Nu (.bool (Zf l c)) w):=by
 go_in;go_wp2_with fail;go_loopg [5] l.size (fun gk a b=>∃k:Nat,k<=l.size/\gk=l.size-k/\a=I_ k/\b=w/\∀j,j<k->bt l j≠c);exact⟨0,zl_ _,rfl,rfl,rfl,fun j b=>o_⟩;obtain⟨k,t,rfl,rfl,rfl,a⟩:=hrel;have d:=bL a;clear a;by_cases f:k<l.size
 .have i:=oL k l.size;have p:=fun w=>eB l (k:Int) k rfl o_ w;have r:=jJ k;have s:(k:Int)<l.size:=o_;have u:=kZ k;by_cases a:bt l k=c
  .have R:Hid (Zf l c=true):=acY f a;rw[a]at p;have n:(c == c)=true:=i_;clear a;go_wp2;go_ret;exact⟨rfl,by rw[R.o];rfl⟩
  .have g:Hid (∀j,j<k+1->bt l j≠c):=fun j b=>by
    by_cases e:j=k
    .subst e;exact a
    .exact d.o j o_
   have n:(bt l k == c)=false:=by simpa using a
   generalize bt l k=b at *;clear a d;go_wp2;go_roundg (l.size-(k+1));exact⟨k+1,o_,rfl,by go_num,rfl,g.o⟩;omega
 .have i:=nI k l.size;have R:Hid (Zf l c=false):=Zg (fun j b=>d.o j o_);clear d;go_wp2;go_ret;exact⟨rfl,by rw[R.o];rfl⟩
def acj:Y_:={ data:=#[40,41,91,93,42,43,63,124,46,92,32,10] }
def ahA:Y_:={ data:=#[93,92,45,32,10] }
def aaJ:Y_:={ data:=#[40,41,91,93,42,43,63,124,46,92,45,94,110,115] }
theorem Zh(c:Int):Zf acj c=!decide (Pu.Plain c):=by have:Zf acj c=[40,41,91,93,42,43,63,124,46,92,32,10].any (fun b:Int=>decide (b=c)):=rfl;rw[this,Bool.eq_iff_iff];simp[Pu.Plain];omega
theorem acX(c:Int):Zf ahA c=!decide (mP c):=by have:Zf ahA c=[93,92,45,32,10].any (fun b:Int=>decide (b=c)):=rfl;rw[this,Bool.eq_iff_iff];simp[mP];omega
theorem afm(c:Int):Zf aaJ c=decide (gZ c):=by have:Zf aaJ c=[40,41,91,93,42,43,63,124,46,92,45,94,110,115].any (fun b:Int=>decide (b=c)):=rfl;rw[this,Bool.eq_iff_iff,decide_eq_true_eq];unfold gZ;simp only[List.any_cons,List.any_nil,Bool.or_eq_true,decide_eq_true_eq,Bool.false_eq_true,or_false];omega
theorem Yl(c:Int)(w:W_):Calls prog 102 #[.int .u8 c] w (Nu (.bool (decide (Pu.Plain c))) w):=by
 have W:=bL (zY acj c w d_);rw[Zh]at W;generalize decide (Pu.Plain c)=b at *;go_in;go_wp2_with fail;refine W.o.mono ?_;rintro e a ⟨rfl,rfl⟩;go_wp2;go_ret;exact⟨rfl,i_⟩
theorem WK(c:Int)(w:W_):Calls prog 103 #[.int .u8 c] w (Nu (.bool (decide (mP c))) w):=by
 have W:=bL (zY ahA c w d_);rw[acX]at W;generalize decide (mP c)=b at *;go_in;go_wp2_with fail;refine W.o.mono ?_;rintro e a ⟨rfl,rfl⟩;go_wp2;go_ret;exact⟨rfl,i_⟩
theorem je(b:Bool)(a:Int)(w:W_):Calls prog 75 #[.bool b,I_ a] w (Nu (I_ (if b=true then a else 16)) w):=by
 cases b with
 | true=>?_
 | false=>?_
 all_goals
  go_in;go_wp2;go_ret;exact⟨rfl,rfl⟩
theorem mO(p:Prop) [Decidable p] (a:Int):(if decide p=true then a else 16)=eP p a:=by unfold eP;by_cases h:p <;> simp[h]
theorem Js(c d:Int)(w:W_)(l:-1000<=d/\d<=1000):C_ 73 #[.int .u8 c,I_ d] w (Nu (.tuple #[I_ (nQ c d).1,I_ (nQ c d).2]) w):=by
 have n:=yL (d+1);by_cases a:c=40
 .subst a;go_enter func73,ntmps73;go_wp2;go_ret2;exact⟨rfl,rfl⟩
 by_cases b:c=91
 .subst b;go_enter func73,ntmps73;go_wp2;go_ret2;exact⟨rfl,rfl⟩
 by_cases e:c=92
 .subst e;go_enter func73,ntmps73;go_wp2;go_ret2;exact⟨rfl,rfl⟩
 by_cases f:c=46
 .subst f;go_enter func73,ntmps73;go_wp2;go_ret2;exact⟨rfl,rfl⟩
 have g:(c == 40)=false:=by simpa using a
 have i:(c == 91)=false:=by simpa using b
 have j:(c == 92)=false:=by simpa using e
 have k:(c == 46)=false:=by simpa using f
 have R:Hid (nQ c d=(eP (Pu.Plain c) 3,d)):=by show _=_;unfold nQ;rw[if_neg a,if_neg b,if_neg e,if_neg f]
 clear a b e f;go_enter func73,ntmps73;go_wp2_with fail;refine (Yl c w).mono ?_;rintro e a ⟨rfl,rfl⟩;go_wp2_with fail;refine (je _ 3 a).mono ?_;rintro e b ⟨rfl,rfl⟩;rw[mO];generalize eP (Pu.Plain c) 3=r at *;go_wp2;go_ret2;exact⟨rfl,by rw[R.o];rfl⟩
theorem WE(c d:Int)(w:W_)(k:-1000<=d/\d<=1000):C_ 74 #[.int .u8 c,I_ d] w (Nu (.tuple #[I_ (nK c d).1,I_ (nK c d).2]) w):=by
 have s:=yL (d-1);by_cases j:c=42\/c=43\/c=63
 .rcases j with rfl | rfl | rfl;all_goals
   go_enter func74,ntmps74;go_wp2;go_ret2;exact⟨rfl,rfl⟩
 by_cases b:c=124
 .subst b;go_enter func74,ntmps74;go_wp2;go_ret2;exact⟨rfl,rfl⟩
 by_cases f:c=41
 .subst f;go_enter func74,ntmps74;go_wp2_with fail;refine (je _ 3 w).mono ?_;rintro e l ⟨rfl,rfl⟩;generalize a:(if decide (0<d)=true then (3:Int) else 16)=r;rw[mO]at a;have i:=bL a;clear a;go_wp2;go_ret2;refine⟨rfl,?_⟩;show Ending.returned (.tuple #[I_ r,I_ (d-1)])=Ending.returned (.tuple #[I_ (eP (0<d) 3),I_ (d-1)]);rw[i.o]
 by_cases g:c=32
 .subst g;go_enter func74,ntmps74;go_wp2_with fail;refine (je (decide (d=0)) 12 w).mono ?_;rintro e l ⟨rfl,rfl⟩;generalize a:(if decide (d=0)=true then (12:Int) else 16)=r;rw[mO]at a;have i:=bL a;clear a;go_wp2;go_ret2;refine⟨rfl,?_⟩;show Ending.returned (.tuple #[I_ r,I_ d])=Ending.returned (.tuple #[I_ (eP (d=0) 12),I_ d]);rw[i.o]
 have a:(c == 42)=false:=by simp;omega
 have i:(c == 43)=false:=by simp;omega
 have l:(c == 63)=false:=by simp;omega
 have n:(c == 124)=false:=by simpa using b
 have p:(c == 41)=false:=by simpa using f
 have q:(c == 32)=false:=by simpa using g
 have R:Hid (nK c d=nQ c d):=by show _=_;unfold nK;rw[if_neg j,if_neg b,if_neg f,if_neg g]
 clear j b f g;go_enter func74,ntmps74;go_wp2_with fail;refine (Js c d w k).mono ?_;rintro e b ⟨rfl,rfl⟩;go_wp2;go_ret2;exact⟨rfl,by rw[R.o];rfl⟩
theorem vH(q c:Int)(w:W_)(i:q=5\/q=6\/q=7\/q=9\/q=11):C_ 76 #[I_ q,.int .u8 c] w (Nu (I_ (ji q c)) w):=by
 have b:=bL (WK c w);by_cases l:c=94
 .subst l;rw[show decide (mP 94)=true from rfl]at b;rcases i with rfl | rfl | rfl | rfl | rfl;all_goals
   go_enter func76,ntmps76;go_wp2_with fail;refine b.o.mono ?_;rintro e a ⟨rfl,rfl⟩;go_wp2_with (first | (refine (je true _ a).mono ?_;rintro e j ⟨rfl,rfl⟩));go_ret;exact⟨rfl,rfl⟩
 by_cases n:c=92
 .subst n;rw[show decide (mP 92)=false from rfl]at b;rcases i with rfl | rfl | rfl | rfl | rfl;all_goals
   go_enter func76,ntmps76;go_wp2_with fail;refine b.o.mono ?_;rintro e a ⟨rfl,rfl⟩;go_wp2_with (first | (refine (je false _ a).mono ?_;rintro e j ⟨rfl,rfl⟩));go_ret;exact⟨rfl,rfl⟩
 by_cases k:c=93
 .subst k;rw[show decide (mP 93)=false from rfl]at b;rcases i with rfl | rfl | rfl | rfl | rfl;all_goals
   go_enter func76,ntmps76;go_wp2_with fail;refine b.o.mono ?_;rintro e a ⟨rfl,rfl⟩;go_wp2_with (first | (refine (je false _ a).mono ?_;rintro e j ⟨rfl,rfl⟩));go_ret;exact⟨rfl,rfl⟩
 by_cases d:c=45
 .subst d;rw[show decide (mP 45)=false from rfl]at b;rcases i with rfl | rfl | rfl | rfl | rfl;all_goals
   go_enter func76,ntmps76;go_wp2_with fail;refine b.o.mono ?_;rintro e a ⟨rfl,rfl⟩;go_wp2_with (first | (refine (je false _ a).mono ?_;rintro e j ⟨rfl,rfl⟩));go_ret;exact⟨rfl,rfl⟩
 have t:(c == 94)=false:=by simpa using l
 have u:(c == 92)=false:=by simpa using n
 have v:(c == 93)=false:=by simpa using k
 have x:(c == 45)=false:=by simpa using d
 have p:=bL (fun a=>je (decide (mP c)) 7 a);have f:=bL (fun a=>je (decide (mP c)) 11 a);rw[mO]at p f;by_cases g:q=9
 .subst g;have R:Hid (ji 9 c=eP (mP c) 11):=by show _=_;unfold ji;rw[if_neg o_,if_neg o_,if_pos rfl]
  rw[R.o];generalize eP (mP c) 11=r at *;generalize decide (mP c)=s at *;clear i R p l n k d;go_enter func76,ntmps76;go_wp2_with fail;refine b.o.mono ?_;rintro e a ⟨rfl,rfl⟩;go_wp2_with fail;refine (f.o a).mono ?_;rintro e j ⟨rfl,rfl⟩;go_wp2;go_ret;exact⟨rfl,rfl⟩
 .have R:Hid (ji q c=eP (mP c) 7):=by show _=_;unfold ji;rw[if_neg o_,if_neg o_,if_neg o_,if_neg o_,if_neg o_,if_neg o_]
  rw[R.o];generalize eP (mP c) 7=r at *;generalize decide (mP c)=s at *;clear R f l n k d;rcases i with rfl | rfl | rfl | rfl | rfl;case inr.inr.inr.inl=>exact absurd rfl g
  all_goals
   clear g;go_enter func76,ntmps76;go_wp2_with fail;refine b.o.mono ?_;rintro e a ⟨rfl,rfl⟩;go_wp2_with fail;refine (p.o a).mono ?_;rintro e j ⟨rfl,rfl⟩;go_wp2;go_ret;exact⟨rfl,rfl⟩
theorem vG(q c l:Int)(w:W_)(n:q=0\/q=1\/q=12\/q=13\/q=14\/q=15):C_ 77 #[I_ q,.int .u8 c,I_ l] w (Nu (I_ (iZ q c l)) w):=by
 have g:∀b d:Bool,decide (97<=c)=b->decide (c<=100)=d->decide (97<=c/\c<=100)=(b && d):=fun b d i j=>by rw[<-i,<-j,Bool.decide_and]
 have f:=bL (fun (p:Prop) (_:Decidable p) (a:Int) (d:W_)=>je (decide p) a d);rcases n with rfl | rfl | rfl | rfl | rfl | rfl;have R:Hid (iZ 0 c l=eP (97<=c/\c<=100) 1):=rfl;have b:=bL (fun d=>je (decide (97<=c/\c<=100)) 1 d);rw[mO]at b;rw[R.o];clear R f;generalize eP (97<=c/\c<=100) 1=r at *;rotate_left
 .have R:Hid (iZ 1 c l=eP (c=32) 2):=rfl;have b:=bL (fun d=>je (decide (c=32)) 2 d);rw[mO]at b;rw[R.o];clear R f g;generalize eP (c=32) 2=r at *;have d:decide (c=32)=(c == 32):=rfl;rw[d]at b;clear d;cases e1:decide (97<=c) <;> cases e2:decide (c<=100)
  all_goals
   go_enter func77,ntmps77;go_wp2_with fail;refine (b.o w).mono ?_;rintro e k ⟨rfl,rfl⟩;go_wp2;go_ret;exact⟨rfl,rfl⟩
 .have R:Hid (iZ 12 c l=eP (c=101\/c=115) 13):=rfl;have b:=bL (fun d=>je (decide (c=101\/c=115)) 13 d);rw[mO]at b;rw[R.o];clear R f g;generalize eP (c=101\/c=115) 13=r at *;have dk:decide (c=101\/c=115)=(decide (c=101) || decide (c=115)):=Bool.decide_or _ _;have d:decide (c=101)=(c == 101):=rfl;have i:decide (c=115)=(c == 115):=rfl;rw[d,i]at dk;rw[dk]at b;clear dk d i;cases e3:(c == 101) <;> cases e4:(c == 115) <;> cases e1:decide (97<=c) <;> cases e2:decide (c<=100)
  all_goals
   rw[e3,e4]at b;simp only[Bool.or_true,Bool.or_false]at b;go_enter func77,ntmps77;go_wp2_with fail;refine (b.o w).mono ?_;rintro e k ⟨rfl,rfl⟩;go_wp2;go_ret;exact⟨rfl,rfl⟩
 .by_cases i:c=62\/c=43
  .have R:Hid (iZ 13 c l=14):=by show _=_;unfold iZ;rw[if_neg d_,if_neg d_,if_neg d_,if_neg d_,if_pos ⟨rfl,i⟩]
   rw[R.o];clear R f g;rcases i with rfl | rfl;all_goals
    go_enter func77,ntmps77;go_wp2;go_ret;exact⟨rfl,rfl⟩
  .by_cases j:c=60
   .subst j;clear f g;go_enter func77,ntmps77;go_wp2;go_ret;exact⟨rfl,rfl⟩
   .have R:Hid (iZ 13 c l=eP (c=10/\l<16) 0):=by show _=_;unfold iZ;rw[if_neg d_,if_neg d_,if_neg d_,if_neg d_,if_neg (fun h=>i h.2),if_neg (fun h=>j h.2)]
    have b:=bL (fun d=>je (decide (c=10/\l<16)) 0 d);rw[mO]at b;rw[R.o];clear R f;generalize eP (c=10/\l<16) 0=r at *;have n1:(c == 62)=false:=by simp;omega
    have p:(c == 43)=false:=by simp;omega
    have t:(c == 60)=false:=by simp;omega
    clear i j;cases e3:(c == 10) <;> cases e4:decide (l<16)
    all_goals
     have d:decide (c=10)=(c == 10):=rfl;rw[e3]at d;have dk:decide (c=10/\l<16)=(decide (c=10) && decide (l<16)):=Bool.decide_and _ _;rw[d,e4]at dk;simp only[Bool.and_true,Bool.and_false]at dk;rw[dk]at b;clear dk d g;cases e1:decide (97<=c) <;> cases e2:decide (c<=100)
     all_goals
      go_enter func77,ntmps77;go_wp2_with fail;refine (b.o w).mono ?_;rintro e k ⟨rfl,rfl⟩;go_wp2;go_ret;exact⟨rfl,rfl⟩
 have R:Hid (iZ 14 c l=eP (97<=c/\c<=100) 15):=rfl;have b:=bL (fun d=>je (decide (97<=c/\c<=100)) 15 d);rw[mO]at b;rw[R.o];clear R f;generalize eP (97<=c/\c<=100) 15=r at *;rotate_left
 .have R:Hid (iZ 15 c l=eP (c=10/\l<16) 0):=rfl;have b:=bL (fun d=>je (decide (c=10/\l<16)) 0 d);rw[mO]at b;rw[R.o];clear R f;generalize eP (c=10/\l<16) 0=r at *;cases e3:(c == 10) <;> cases e4:decide (l<16)
  all_goals
   have d:decide (c=10)=(c == 10):=rfl;rw[e3]at d;have dk:decide (c=10/\l<16)=(decide (c=10) && decide (l<16)):=Bool.decide_and _ _;rw[d,e4]at dk;simp only[Bool.and_true,Bool.and_false]at dk;rw[dk]at b;clear dk d g;cases e1:decide (97<=c) <;> cases e2:decide (c<=100)
   all_goals
    go_enter func77,ntmps77;go_wp2_with fail;refine (b.o w).mono ?_;rintro e k ⟨rfl,rfl⟩;go_wp2;go_ret;exact⟨rfl,rfl⟩
 all_goals
  cases e1:decide (97<=c) <;> cases e2:decide (c<=100)
  all_goals
   rw[g _ _ e1 e2]at b;simp only[Bool.and_true,Bool.and_false]at b;clear g;go_enter func77,ntmps77;go_wp2_with fail;refine (b.o w).mono ?_;rintro e k ⟨rfl,rfl⟩;go_wp2;go_ret;exact⟨rfl,rfl⟩
end Go.Proofs.YtmccnmgaoppogabGreat
